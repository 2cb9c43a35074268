import Derived.Test.YtfalhnomhidkcaaGreatDoorSq
import Derived.Test.YtfalhnomhidkcaaGreatDoorFilesKeysMBX
import Derived.Lib.BufferWrite
import Derived.Laws.CopyOwn
import Derived.StillTailTactics
import Derived.Test.YtfalhnomhidkcaaGreatDoorOwn
import Derived.Test.YtfalhnomhidkcaaGreatDoorPackM
import Derived.Test.YtfalhnomhidkcaaGreatDoorProg
import Derived.Shelf.SlLaysV
import Derived.Shelf.Bytes.SlTrim
import Derived.KernelRfl
import Derived.Test.YtfalhnomhidkcaaGreatDoorFilesKeysMBW
import Derived.Test.YtfalhnomhidkcaaGreatDoorConvS
import Derived.Test.YtfalhnomhidkcaaGreatDoorFilesKeysMBO
set_option maxHeartbeats 16000000
set_option linter.unusedVariables false
set_option linter.unusedSimpArgs false
set_option maxRecDepth 100000
namespace Go.Proofs.YtfalhnomhidkcaaGreatDoor.FileK
open Go.RowKit
open Byte KeysM TreeM ViewM NodeM NodeG NodeK WalkM WalkF WalkKm DirsV FileM FileV Lst Chg TreeL ViewL WalkL WalkV Vat WalkKa WalkKb DirsK
open Own hiding keeps
variable {Rep : RepT}
theorem room_calls (b : Bool) (w : World) : Calls Tryz.prog 86 #[.bool b] w fun e w' => e = .returned (.int .i64 (if b then 0 else 21)) ∧ w = w' := by
 cases b
 all_goals
  go_enter Tryz.func86,Tryz.ntmps86
  go_wp2_with fail
  go_ret
  exact ⟨rfl,rfl⟩
def FilV (L : List Pr) (ino : Int) : Value := .tuple #[.agg #[.int .u8 (filV L ino).1.k,.int .u32 (filV L ino).1.l,.int .u32 (filV L ino).1.s,.int .u32 (filV L ino).1.p],.int .i64 (filV L ino).2]
theorem load_calls (hW : Wk Rep) {w : World} {v : Value} {s : Vs} {S D : Nat → Prop} (ino : Int) (hr : Rep w v s S D) (hl : Lim s) (h0 : 0 ≤ ino) (h1 : ino ≤ 4294967295) :
 Calls Tryz.prog 84 #[v,.int .u32 ino] w (WalkL.Stepped Rep v (s.read (kI ino)) (FilV s.shown ino) S D w) := by
 have R0 := hQ_ (Blk.new_ w #[.int .u8 0,.int .u32 0,.int .u32 0,.int .u32 0] 59)
 have hb0 := bX_ R0.out
 have A0 := hQ_ ((At.start hr).own hW.stays hb0 (Nat.le_refl _) (by simp))
 have HS := hQ_ hW.stays
 have HLD := hQ_ (fun (w1 : World) (S1 D1 : Nat → Prop) (hr1 : Rep w1 v s S1 D1) => WalkKa.load_calls hW.stays hW.get hW.small ino hr1 hl h0 h1)
 unfold LoadV at HLD
 unfold FilV filV
 clear hb0 hr
 generalize (loadM s.shown ino).2 = bb at *
 generalize (loadM s.shown ino).1 = xx at *
 obtain ⟨xk,xl,xz,xp⟩ := xx
 dsimp only at HLD ⊢
 clear hl
 cases bb with
 | false =>
   rw [if_neg (by rintro ⟨h,_⟩; cases h)]
   dsimp only [ino0]
   go_enter Tryz.func84,Tryz.ntmps84
   go_wp2_with fail
   refine (HLD.out _ _ _ A0.out.rep).mono ?_
   rintro e w1 ⟨S1,D1,rfl,hr1,st1⟩
   have hbn := bN_ w1 (.cells #[.int .u8 xk,.int .u32 xl,.int .u32 xz,.int .u32 xp] 59)
   have A1 := hQ_ ((A0.out.step HS.out hr1 st1).below HS.out hbn)
   have R1 := hQ_ ((A0.out.blk HS.out R0.out (.inr rfl) st1).below hbn)
   clear hr1 st1 hbn
   go_wp2_with ((with_reducible refine pick none ?_); refine store_blk rfl 59 _ _ rfl w.heap.size #[.int .u8 0,.int .u32 0,.int .u32 0,.int .u32 0] rfl rfl 59 _ R1.out info_ino rfl (by simp [Value.oneCell']) ?_; intro w5 hk5 hg5)
   have A5 := A1.out.stored HS.out R1.out (.inr rfl) (by decide) hg5
   exact bodyPost_ret (v := .tuple #[.agg #[.int .u8 0,.int .u32 0,.int .u32 0,.int .u32 0],.int .i64 16]) (results_row_tmp rfl _ _ w.heap.size 59 _ (0,0) _ rfl _ rfl hk5 Tryz.underlying59 rfl info_ino) rfl ⟨S1,D1,rfl,A5.rep,A5.st⟩
 | true =>
   by_cases hk : xk = 1
   ·subst hk
    rw [if_pos ⟨rfl,rfl⟩]
    dsimp only
    go_enter Tryz.func84,Tryz.ntmps84
    go_wp2_with fail
    refine (HLD.out _ _ _ A0.out.rep).mono ?_
    rintro e w1 ⟨S1,D1,rfl,hr1,st1⟩
    have hbn := bN_ w1 (.cells #[.int .u8 1,.int .u32 xl,.int .u32 xz,.int .u32 xp] 59)
    have A1 := hQ_ ((A0.out.step HS.out hr1 st1).below HS.out hbn)
    have R1 := hQ_ ((A0.out.blk HS.out R0.out (.inr rfl) st1).below hbn)
    clear hr1 st1 hbn
    go_wp2_with ((with_reducible refine pick none ?_); refine store_blk rfl 59 _ _ rfl w.heap.size #[.int .u8 1,.int .u32 xl,.int .u32 xz,.int .u32 xp] rfl rfl 59 _ R1.out info_ino rfl (by simp [Value.oneCell']) ?_; intro w5 hk5 hg5)
    have A5 := A1.out.stored HS.out R1.out (.inr rfl) (by decide) hg5
    exact bodyPost_ret (v := .tuple #[.agg #[.int .u8 1,.int .u32 xl,.int .u32 xz,.int .u32 xp],.int .i64 0]) (results_row_tmp rfl _ _ w.heap.size 59 _ (0,0) _ rfl _ rfl hk5 Tryz.underlying59 rfl info_ino) rfl ⟨S1,D1,rfl,A5.rep,A5.st⟩
   ·rw [if_neg (fun h => hk h.2)]
    dsimp only [ino0]
    have d1 : (xk != 1) = true := by simpa using hk
    go_enter Tryz.func84,Tryz.ntmps84
    go_wp2_with fail
    refine (HLD.out _ _ _ A0.out.rep).mono ?_
    rintro e w1 ⟨S1,D1,rfl,hr1,st1⟩
    have hbn := bN_ w1 (.cells #[.int .u8 xk,.int .u32 xl,.int .u32 xz,.int .u32 xp] 59)
    have A1 := hQ_ ((A0.out.step HS.out hr1 st1).below HS.out hbn)
    have R1 := hQ_ ((A0.out.blk HS.out R0.out (.inr rfl) st1).below hbn)
    clear hr1 st1 hbn hk
    go_wp2_with ((with_reducible refine pick none ?_); refine store_blk rfl 59 _ _ rfl w.heap.size #[.int .u8 0,.int .u32 0,.int .u32 0,.int .u32 0] rfl rfl 59 _ R1.out info_ino rfl (by simp [Value.oneCell']) ?_; intro w5 hk5 hg5)
    have A5 := A1.out.stored HS.out R1.out (.inr rfl) (by decide) hg5
    exact bodyPost_ret (v := .tuple #[.agg #[.int .u8 0,.int .u32 0,.int .u32 0,.int .u32 0],.int .i64 16]) (results_row_tmp rfl _ _ w.heap.size 59 _ (0,0) _ rfl _ rfl hk5 Tryz.underlying59 rfl info_ino) rfl ⟨S1,D1,rfl,A5.rep,A5.st⟩
end Go.Proofs.YtfalhnomhidkcaaGreatDoor.FileK
namespace Go.Proofs.YtfalhnomhidkcaaGreatDoor.Cpy
open Go.RowKit Go.Lib
open Byte PackM Own
def u8A (l : List Int) : Array Value := (l.map (Value.int .u8)).toArray
theorem u8A_size (l : List Int) : (u8A l).size = l.length := by simp [u8A]
theorem u8A_all (l : List Int) : (u8A l).all (·.oneCell') = true := by
 simp [u8A,Value.oneCell']
abbrev Z64 : Array Value := #[.int .u8 0,.int .u8 0,.int .u8 0,.int .u8 0,.int .u8 0,.int .u8 0,.int .u8 0,.int .u8 0,.int .u8 0,.int .u8 0,.int .u8 0,.int .u8 0,.int .u8 0,.int .u8 0,.int .u8 0,.int .u8 0,.int .u8 0,.int .u8 0,.int .u8 0,.int .u8 0,.int .u8 0,.int .u8 0,.int .u8 0,.int .u8 0,.int .u8 0,.int .u8 0,.int .u8 0,.int .u8 0,.int .u8 0,.int .u8 0,.int .u8 0,.int .u8 0,.int .u8 0,.int .u8 0,.int .u8 0,.int .u8 0,.int .u8 0,.int .u8 0,.int .u8 0,.int .u8 0,.int .u8 0,.int .u8 0,.int .u8 0,.int .u8 0,.int .u8 0,.int .u8 0,.int .u8 0,.int .u8 0,.int .u8 0,.int .u8 0,.int .u8 0,.int .u8 0,.int .u8 0,.int .u8 0,.int .u8 0,.int .u8 0,.int .u8 0,.int .u8 0,.int .u8 0,.int .u8 0,.int .u8 0,.int .u8 0,.int .u8 0,.int .u8 0]
theorem cells_txt (t : ByteArray) : byteCells t.data.toList = (txt t).map (Value.int .u8) := by
 unfold byteCells txt
 rw [List.map_map]
 rfl
theorem wpList_copy_str {P : Program} {w : World} {ops : Array Oper} {rest : List Oper} {o : Oper} {a : Act} {Q : Exit → Act → World → Prop} (hgd : o.guard = none) (d s : Operand) (dT sT : TypeId)
 (ho : o.op = .call { callee := .builtin .copy,args := #[d,s],argTypes := #[dT,sT] }) (elem : TypeId) (hu : P.underlying dT = some (.slice elem)) (hsz : (P.info? elem).map (·.size) = some 1)
 (g n c : Nat) (t : ByteArray) (hd : a.eval d = .slice (some ⟨g,0,none⟩) n c) (hs : a.eval s = .string t) (cur : List Int) (T : TypeId) (hg : Blk w g (u8A cur) T) (hle : t.size ≤ n) (hfit : t.size ≤ cur.length)
 (h : ∀ w',Blk w' g (u8A (txt t ++ cur.drop t.size)) T → w.grownBy w' (some g) → wpList P ops Q rest (a.put o.dst (goInt t.size)) w') : wpList P ops Q (o :: rest) a w := by
 refine wpList_plain hgd fun K hK => ?_
 have hrun := run_copy_row_string (P := P) w dT sT o.type elem g 0 n c t (u8A cur) T hu hsz hg hle (by rw [u8A_size]; omega)
 have e : ((u8A cur).toList.take 0 ++ byteCells t.data.toList ++ (u8A cur).toList.drop (0 + t.size)).toArray = u8A (txt t ++ cur.drop t.size) := by
  unfold u8A
  rw [cells_txt,List.take_zero,List.nil_append,Nat.zero_add,List.map_append,List.map_drop]
 rw [e] at hrun
 unfold Oper.wp
 simp [execOp,ho,resolve,invoke,builtin,hd,hs,hrun,Result.andThen]
 exact hK _ _ (h _ (setRow_heap w g (u8A cur) _ T (0,0) hg) (grown_setRow w g _))
def sp_ (l xs : List Int) (f : Nat) : List Int := l.take f ++ (xs ++ l.drop (f + xs.length))
theorem wpList_copy_row {P : Program} {w : World} {ops : Array Oper} {rest : List Oper} {o : Oper} {a : Act} {Q : Exit → Act → World → Prop} (hgd : o.guard = none) (d s : Operand) (dT sT : TypeId)
 (ho : o.op = .call { callee := .builtin .copy,args := #[d,s],argTypes := #[dT,sT] }) (elem : TypeId) (hu : P.underlying dT = some (.slice elem)) (hsz : (P.info? elem).map (·.size) = some 1)
 (g f dLen dCap : Nat) (ad : Addr) (sLen sCap : Nat) (hd : a.eval d = .slice (some ⟨g,f,none⟩) dLen dCap) (hs : a.eval s = .slice (some ad) sLen sCap) (cur : List Int) (T : TypeId) (hg : Blk w g (u8A cur) T) (xs : List Int) (hn : xs.length = Nat.min sLen dLen)
 (hsrc : ∀ j x,xs[j]? = some x → w.cell? (ad.add j) = some (.int .u8 x)) (hfit : f + xs.length ≤ cur.length)
 (h : ∀ w',Blk w' g (u8A (sp_ cur xs f)) T → w.grownBy w' (some g) → wpList P ops Q rest (a.put o.dst (goInt xs.length)) w') : wpList P ops Q (o :: rest) a w := by
 refine wpList_plain hgd fun K hK => ?_
 have hrun := run_copy_row (P := P) w dT sT o.type elem g f dLen dCap ad sLen sCap (u8A cur) T (xs.map (Value.int .u8)) hu hsz hg (by rw [List.length_map]; exact hn) (fun j v hv => by
  rw [List.getElem?_map] at hv
  obtain ⟨x,hx,rfl⟩ := Option.map_eq_some_iff.1 hv
  exact hsrc j x hx) (by rw [List.length_map,u8A_size]; exact hfit) (fun v hv => by
  obtain ⟨x,_,rfl⟩ := List.mem_map.1 hv
  rfl)
 have e : ((u8A cur).toList.take f ++ xs.map (Value.int .u8) ++ (u8A cur).toList.drop (f + (xs.map (Value.int .u8)).length)).toArray = u8A (sp_ cur xs f) := by
  unfold u8A sp_
  rw [List.length_map,List.map_append,List.map_append,List.map_take,List.map_drop,List.append_assoc]
 rw [e,List.length_map] at hrun
 unfold Oper.wp
 simp [execOp,ho,resolve,invoke,builtin,hd,hs,hrun,Result.andThen]
 exact hK _ _ (h _ (setRow_heap w g (u8A cur) _ T (0,0) hg) (grown_setRow w g _))
section
variable {P : Program} {ops : Array Oper} {w : World} {Q : Act → Prop} {a : Act} {o : Oper} {rest : List Oper}
theorem sr_val (v : Value) (hw : Region.wanted o (yielded ops a.tmps) = true) (hr : (execOp a.eval o).run P w = .ok (.value v) w) (h : wpStill P ops w Q rest (a.put o.dst v)) : wpStill P ops w Q (o :: rest) a :=
 wpStill_step fun K hK => by
  rw [if_pos hw]
  unfold Oper.still
  rw [hr,Oper.stillUpon_value]
  exact hK _ h
theorem sr_move (x : Operand) (ho : o.op = .move x) (hw : Region.wanted o (yielded ops a.tmps) = true) (v : Value) (hx : a.eval x = v) (h : wpStill P ops w Q rest (a.put o.dst v)) : wpStill P ops w Q (o :: rest) a :=
 sr_val v hw (by unfold execOp; rw [ho]; simp only [hx,Sem.run_pure]) h
theorem sr_slice (t : TypeId) (x : Operand) (lo hi mx : Option Operand) (ho : o.op = .slice t x lo hi mx) (hw : Region.wanted o (yielded ops a.tmps) = true) (r : Value) (hr : (Instr.sliceAt t (a.eval x) (lo.map a.eval) (hi.map a.eval) (mx.map a.eval)).run P w = .ok r w) (h : wpStill P ops w Q rest (a.put o.dst r)) : wpStill P ops w Q (o :: rest) a :=
 sr_val r hw (by unfold execOp; rw [ho]; simp only [Sem.run_bind,hr,Result.andThen_ok,Sem.run_pure]) h
end
end Go.Proofs.YtfalhnomhidkcaaGreatDoor.Cpy
namespace Go.Proofs.YtfalhnomhidkcaaGreatDoor.FileKa
open Go.RowKit
open Byte PackM KeysM KeysL KeysC TreeM TreeR ViewM NodeM WalkM WalkF WalkKm DirsV FileM FileV Lst Chg TreeL ViewL WalkL WalkV Vat DirsK Cpy
open Own hiding keeps
variable {Rep : RepT}
theorem info64 : (Tryz.prog.info? 195).map (·.size) = some 64 := by kernel_rfl
theorem kd_size (ino n : Int) : (kD ino n).size ≤ 100 := by
 unfold kD
 split
 ·decide
 ·rw [ByteArray.size_append,ks_size,str_size]
  simp
theorem got_val (q : Option Pr) : ∃ t b,GotV q = .tuple #[.string t,.bool b] ∧ valL (q.map (·.value)) = txt t := by
 cases q with
 | none => exact ⟨⟨#[]⟩,false,rfl,rfl⟩
 | some p => exact ⟨p.value,true,rfl,rfl⟩
theorem pad_app {l : List Int} (h : l.length ≤ 64) : l ++ (List.replicate 64 (0 : Int)).drop l.length = pad 64 l := by
 unfold pad
 rw [List.drop_replicate,List.take_append,List.take_of_length_le h,List.take_replicate]
 congr 2
 omega
def BlkV (l : List Int) : Value := .agg (u8A l)
theorem get_calls (hW : Wk Rep) (hK : LookOk Rep) {w : World} {v : Value} {s : Vs} {S D : Nat → Prop} (ino which : Int) (hr : Rep w v s S D) (hl : Lim s) (h0 : 0 ≤ ino) (h1 : ino ≤ 4294967295) (w0 : 0 ≤ which) (w1 : which ≤ 65535) (hv : (valL ((getL (kD ino which) s.shown).map (·.value))).length ≤ 64) :
 Calls Tryz.prog 131 #[v,.int .u32 ino,.int .i64 which] w (WalkL.Stepped Rep v s (BlkV (getB s.shown ino which)) S D w) := by
 unfold getB BlkV
 obtain ⟨t,b,e1,e2⟩ := got_val (getL (kD ino which) s.shown)
 rw [e2] at hv ⊢
 rw [txt_len] at hv
 have HP : Hid (txt t ++ (List.replicate 64 (0 : Int)).drop t.size = pad 64 (txt t)) := hQ_ (by rw [← txt_len]; exact pad_app (by rw [txt_len]; exact hv))
 have HLK := hQ_ (fun (w1 : World) (S1 D1 : Nat → Prop) (hr1 : Rep w1 v s S1 D1) => hK (kD ino which) hr1 hl (by have := kd_size ino which; omega))
 rw [e1] at HLK
 have HB := hQ_ (fun w => block_calls ino which w h0 h1 (by omega) (by omega))
 have HS := hQ_ hW.stays
 have hb0 : Below w.heap.size w ((w.alloc (.cells Z64 195)).alloc (.cells Z64 195)) := (bW_).alloc (by simp) _
 have A0 := hQ_ ((At.start hr).owns hW.stays hb0 (Q := fun b => b = w.heap.size ∨ b = w.heap.size + 1) (by rintro b (rfl | rfl) <;> simp <;> omega))
 have R0 : Hid (Blk ((w.alloc (.cells Z64 195)).alloc (.cells Z64 195)) w.heap.size (u8A (List.replicate 64 0)) 195) := hQ_ ((Blk.new_ w Z64 _).alloc _)
 have R1 : Hid (Blk ((w.alloc (.cells Z64 195)).alloc (.cells Z64 195)) (w.heap.size + 1) (u8A (List.replicate 64 0)) 195) := hQ_ (by
  have := Blk.new_ (w.alloc (.cells Z64 195)) Z64 195
  rw [show (w.alloc (.cells Z64 195)).heap.size = w.heap.size + 1 by simp] at this
  exact this)
 have HTS := hQ_ hv
 have HI : Hid (∀ l : List Int,l.length = 64 → (Tryz.prog.info? 195).map (·.size) = some (u8A l).size) := hQ_ (fun l hl => by rw [u8A_size,hl]; exact info64)
 clear hr hl hW hK hb0 e1 e2 hv h0 h1 w0 w1
 go_enter Tryz.func131,Tryz.ntmps131
 go_wp2_with fail
 refine (HB.out _).mono ?_
 rintro e w2 ⟨rfl,hb2⟩
 have A2 := hQ_ (A0.out.below HS.out hb2)
 have R02 := hQ_ (R0.out.below hb2)
 have R12 := hQ_ (R1.out.below hb2)
 clear hb2
 go_wp2_with fail
 refine (HLK.out _ _ _ A2.out.rep).mono ?_
 rintro e w3 ⟨S3,D3,rfl,hr3,st3⟩
 have A3 := hQ_ (A2.out.step HS.out hr3 st3)
 have R03 := hQ_ (A2.out.blk HS.out R02.out (.inr (.inl rfl)) st3)
 have R13 := hQ_ (A2.out.blk HS.out R12.out (.inr (.inr rfl)) st3)
 clear hr3 st3
 go_wp2_with (first
  | ((with_reducible refine pick (some 20) ?_); refine wpList_copy_str rfl _ _ 77 9 rfl 5 Tryz.underlying77 (by kernel_rfl) (w.heap.size + 1) 64 64 t rfl rfl (List.replicate 64 0) 195 R13.out HTS.out HTS.out ?_; rw [HP.out]; intro w4 hk4 hg4)
  | ((with_reducible refine pick (some 21) ?_); refine load_blk rfl 195 _ rfl (w.heap.size + 1) rfl 195 _ _ hk4 Tryz.underlying195 rfl (HI.out _ (pad_len _ _)) ?_)
  | ((with_reducible refine pick none ?_); refine store_blk rfl 195 _ _ rfl w.heap.size (u8A (pad 64 (txt t))) rfl rfl 195 _ (R03.out.grown hg4 (by omega)) (HI.out _ (pad_len _ _)) (by rw [u8A_size,u8A_size,pad_len,List.length_replicate]) (u8A_all _) ?_; intro w5 hk5 hg5))
 have A4 := A3.out.stored HS.out R13.out (.inr (.inr rfl)) (by decide) hg4
 have A5 := A4.stored HS.out (R03.out.grown hg4 (by omega)) (.inr (.inl rfl)) (by decide) hg5
 exact bodyPost_ret (v := .agg (u8A (pad 64 (txt t)))) (results_cell_row rfl _ _ w.heap.size 195 _ (0,0) _ rfl hk5 Tryz.underlying195 rfl (HI.out _ (pad_len _ _))) rfl ⟨S3,D3,rfl,A5.rep,A5.st⟩
end Go.Proofs.YtfalhnomhidkcaaGreatDoor.FileKa
namespace Go.Proofs.YtfalhnomhidkcaaGreatDoor.FileY
open Go.Proofs
def trimLay_ren : Go.Shelf.Ren := ⟨fun | 7 => 150 | 10 => 159 | 11 => 160 | 13 => 161 | 15 => 162 | 16 => 168 | 19 => 169 | 18 => 170 | 21 => 177 | 17 => 178 | 20 => 181 | n => n,fun | 22 => 77 | 9 => 9 | 3 => 3 | 4 => 4 | 5 => 5 | 28 => 212 | 27 => 211 | 0 => 0 | 31 => 215 | 21 => 21 | 33 => 217 | 36 => 224 | 37 => 177 | 40 => 227 | 39 => 226 | n => n,fun | 0 => 1 | 1 => 2 | n => n⟩
theorem trimLay : Go.Proofs.SlLaysV.n7 Tryz.prog trimLay_ren := {
 mixed := by kernel_rfl,
 f7 := Tryz.func150.trans (congrArg some (by kernel_rfl)),
 f10 := Tryz.func159.trans (congrArg some (by kernel_rfl)),
 f11 := Tryz.func160.trans (congrArg some (by kernel_rfl)),
 f13 := Tryz.func161.trans (congrArg some (by kernel_rfl)),
 f15 := Tryz.func162.trans (congrArg some (by kernel_rfl)),
 f16 := Tryz.func168.trans (congrArg some (by kernel_rfl)),
 f17 := Tryz.func178.trans (congrArg some (by kernel_rfl)),
 f18 := Tryz.func170.trans (congrArg some (by kernel_rfl)),
 f19 := Tryz.func169.trans (congrArg some (by kernel_rfl)),
 f20 := Tryz.func181.trans (congrArg some (by kernel_rfl)),
 f21 := Tryz.func177.trans (congrArg some (by kernel_rfl)),
 t0 := Tryz.underlying0,
 a0 := Tryz.isAgg0,
 z0 := Tryz.sizeOf0,
 v0 := Tryz.zeroValue0,
 t3 := Tryz.underlying3,
 a3 := Tryz.isAgg3,
 z3 := Tryz.sizeOf3,
 v3 := Tryz.zeroValue3,
 t4 := Tryz.underlying4,
 a4 := Tryz.isAgg4,
 z4 := Tryz.sizeOf4,
 v4 := Tryz.zeroValue4,
 t5 := Tryz.underlying5,
 a5 := Tryz.isAgg5,
 z5 := Tryz.sizeOf5,
 v5 := Tryz.zeroValue5,
 t9 := Tryz.underlying9,
 a9 := Tryz.isAgg9,
 z9 := Tryz.sizeOf9,
 v9 := Tryz.zeroValue9,
 t21 := Tryz.underlying21,
 a21 := Tryz.isAgg21,
 z21 := Tryz.sizeOf21,
 v21 := Tryz.zeroValue21,
 t22 := Tryz.underlying77,
 a22 := Tryz.isAgg77,
 z22 := Tryz.sizeOf77,
 v22 := Tryz.zeroValue77,
 t27 := Tryz.underlying211,
 a27 := Tryz.isAgg211,
 z27 := Tryz.sizeOf211,
 t28 := Tryz.underlying212,
 a28 := Tryz.isAgg212,
 z28 := Tryz.sizeOf212,
 v28 := Tryz.zeroValue212,
 t31 := Tryz.underlying215,
 a31 := Tryz.isAgg215,
 z31 := Tryz.sizeOf215,
 v31 := Tryz.zeroValue215,
 t33 := Tryz.underlying217,
 a33 := Tryz.isAgg217,
 z33 := Tryz.sizeOf217,
 v33 := Tryz.zeroValue217,
 t36 := Tryz.underlying224,
 a36 := Tryz.isAgg224,
 z36 := Tryz.sizeOf224,
 t37 := Tryz.underlying177,
 a37 := Tryz.isAgg177,
 z37 := Tryz.sizeOf177,
 v37 := Tryz.zeroValue177,
 t39 := Tryz.underlying226,
 a39 := Tryz.isAgg226,
 z39 := Tryz.sizeOf226,
 v39 := Tryz.zeroValue226,
 t40 := Tryz.underlying227,
 a40 := Tryz.isAgg227,
 z40 := Tryz.sizeOf227,
 v40 := Tryz.zeroValue227 }
open Go.RowKit
open Byte PackM FileM
theorem cut0_rev : ∀ (l : List Int),cut0 l = (l.reverse.dropWhile (fun x => decide (x = 0))).reverse
 | [] => rfl
 | x :: r => by
   have ih := cut0_rev r
   rw [List.reverse_cons,List.dropWhile_append,cut0]
   cases h : cut0 r with
   | nil =>
     rw [h] at ih
     have e : r.reverse.dropWhile (fun x => decide (x = 0)) = [] := by
      have := congrArg List.reverse ih
      rw [List.reverse_reverse] at this
      exact this.symm
     rw [e]
     by_cases hx : x = 0
     ·simp [hx]
     ·simp [hx]
   | cons y q =>
     rw [h] at ih
     have e : r.reverse.dropWhile (fun x => decide (x = 0)) = (y :: q).reverse := by
      have := congrArg List.reverse ih
      rw [List.reverse_reverse] at this
      exact this.symm
     rw [e]
     simp
theorem drop_len : ∀ (l : List Int),(∀ x ∈ l,0 ≤ x ∧ x ≤ 255) → ((l.map fun n => UInt8.ofNat n.toNat).dropWhile (([0] : List UInt8).contains ·)).length = (l.dropWhile (fun x => decide (x = 0))).length
 | [],_ => rfl
 | x :: r,h => by
   have hx := h x (by simp)
   have e : ([0] : List UInt8).contains (UInt8.ofNat x.toNat) = decide (x = 0) := by
    by_cases h0 : x = 0
    ·subst h0; rfl
    ·rw [decide_eq_false h0]
     simp only [List.contains_cons,List.contains_nil,Bool.or_false,beq_eq_false_iff_ne]
     intro hc
     have := congrArg UInt8.toNat hc
     rw [UInt8.toNat_ofNat'] at this
     have h2 : x.toNat % 256 = 0 := this
     omega
   rw [List.map_cons,List.dropWhile_cons,List.dropWhile_cons,e]
   by_cases h0 : x = 0
   ·rw [decide_eq_true h0,if_pos rfl,if_pos rfl]
    exact drop_len r fun y hy => h y (by simp [hy])
   ·rw [decide_eq_false h0]
    simp
theorem trim_len {l : List Int} (h : ∀ x ∈ l,0 ≤ x ∧ x ≤ 255) : (Lib.trimRightS (Lib.bytesOf l) [0]).length = (cut0 l).length := by
 unfold Lib.trimRightS Lib.bytesOf
 rw [cut0_rev,List.length_reverse,List.length_reverse,← List.map_reverse]
 exact drop_len _ fun x hx => h x (by simpa using hx)
theorem cut0_take (l : List Int) : l.take (cut0 l).length = cut0 l := by
 obtain ⟨k,hk⟩ := cut0_spec l
 conv => lhs; arg 2; rw [hk]
 rw [List.take_left' rfl]
theorem trim_pos {w : World} {g n c : Nat} {xs : List Int} (h : Bs w (some ⟨g,0,none⟩) n xs) (hn : 0 < n) (hc : n ≤ c) (hbig : c ≤ 9223372036854775807) :
 Calls Tryz.prog 150 #[.slice (some ⟨g,0,none⟩) n c,.string ⟨#[0]⟩] w fun e w' => e = .returned (.slice (some ⟨g,0,none⟩) (cut0 xs).length c) ∧ w' = w := by
 have := Any.bytes_TrimRight_one trimLay (some ⟨g,0,none⟩) n c (Lib.bytesOf xs) 0 w (by unfold Lib.bytesOf; rw [List.length_map,h.1]) hc hbig (fun _ => ⟨g,0,rfl,fun i hi => by
  rw [h.at_ i hi]
  have hb := h.bd i
  unfold Lib.bytesOf
  have hl : i < xs.length := by rw [h.1]; exact hi
  rw [List.getD_eq_getElem?_getD,List.getD_eq_getElem?_getD,List.getElem?_map,List.getElem?_eq_getElem hl]
  rw [List.getD_eq_getElem?_getD,List.getElem?_eq_getElem hl] at hb
  dsimp only [Option.map_some,Option.getD_some] at hb ⊢
  rw [UInt8.toNat_ofNat']
  have : xs[i].toNat % 256 = xs[i].toNat := Nat.mod_eq_of_lt (by omega)
  rw [this,Int.toNat_of_nonneg hb.1]⟩) hn (by decide)
 rw [trim_len h.2.1] at this
 exact this
theorem trim_calls {w : World} {g n c : Nat} {xs : List Int} (h : Bs w (some ⟨g,0,none⟩) n xs) (hc : n ≤ c) (hbig : c ≤ 9223372036854775807) :
 Calls Tryz.prog 150 #[.slice (some ⟨g,0,none⟩) n c,.string ⟨#[0]⟩] w fun e w' => e = .returned (.slice (some ⟨g,0,none⟩) (cut0 xs).length c) ∧ w' = w := by
 by_cases hn : 0 < n
 ·exact trim_pos h hn hc hbig
 ·have h0 : n = 0 := by omega
  subst h0
  have hx : xs = [] := List.eq_nil_of_length_eq_zero h.1
  subst hx
  exact Any.bytes_TrimRight_empty trimLay (some ⟨g,0,none⟩) 0 c ⟨#[0]⟩ w (.inl rfl)
end Go.Proofs.YtfalhnomhidkcaaGreatDoor.FileY
namespace Go.Proofs.YtfalhnomhidkcaaGreatDoor.FileKb
open Go.RowKit
open Byte PackM KeysM KeysL KeysC KeysB TreeM TreeR ViewM NodeM WalkM WalkF WalkKm DirsV FileM FileV Lst Chg TreeL ViewL WalkL WalkV Vat DirsK FileKa FileY
open Own hiding keeps
variable {Rep : RepT}
theorem put_calls (hW : Wk Rep) (hT : SetOk Rep) {w : World} {v : Value} {s : Vs} {S D : Nat → Prop} (ino which : Int) {g n c : Nat} {xs : List Int} (hr : Rep w v s S D) (hl : Lim s) (h0 : 0 ≤ ino) (h1 : ino ≤ 4294967295) (w0 : 0 ≤ which) (w1 : which ≤ 65535) (hx : Bs w (some ⟨g,0,none⟩) n xs) (hc : n ≤ c) (hbig : c ≤ 9223372036854775807) (hn : n ≤ 100000) :
 Calls Tryz.prog 132 #[v,.int .u32 ino,.int .i64 which,.slice (some ⟨g,0,none⟩) n c] w (Wrote Rep v s [putP ino which xs] 0 0 S D w) := by
 have HB := hQ_ (fun w => block_calls ino which w h0 h1 (by omega) (by omega))
 have HTR := hQ_ (fun (w1 : World) (h : Bs w1 (some ⟨g,0,none⟩) n xs) => trim_calls h hc hbig)
 have HCV := hQ_ (fun (w1 : World) (h : Bs w1 (some ⟨g,0,none⟩) n xs) => conv_front (cap := c) h (cut0 xs).length (by have := cut0_len xs; have := h.1; omega) (s := str (cut0 xs)) (by rw [cut0_take]))
 have HS := hQ_ hW.stays
 have A0 := hQ_ (At.start hr)
 have HX := hQ_ hx
 have hks := kd_size ino which
 have HP : Hid (putP ino which xs s.shown = ⟨kD ino which,str (cut0 xs),decide (cut0 xs = [])⟩) := hQ_ rfl
 by_cases he : cut0 xs = []
 ·have HCT := hQ_ (fun (w1 : World) (S1 D1 : Nat → Prop) (hr1 : Rep w1 v s S1 D1) => hW.cut (kD ino which) hr1 hl (by omega))
  have HQ : Hid (putP ino which xs s.shown = ⟨kD ino which,⟨#[]⟩,true⟩) := hQ_ (by rw [HP.out,he]; rfl)
  rw [he] at HTR HCV
  have e0 : str ([] : List Int) = ⟨#[]⟩ := rfl
  rw [e0] at HCV
  dsimp only [List.length_nil] at HTR HCV
  clear hr hl hW hx he HP hks e0
  go_enter Tryz.func132,Tryz.ntmps132
  go_wp2_with fail
  refine (HB.out _).mono ?_
  rintro e w2 ⟨rfl,hb2⟩
  have A2 := hQ_ (A0.out.below HS.out hb2)
  have X2 := hQ_ (HX.out.below hb2)
  clear hb2
  have ct := HCV.out _ X2.out
  go_wp2_with fail
  refine (HTR.out _ X2.out).mono ?_
  rintro e w3 ⟨rfl,rfl⟩
  go_wp2_with fail
  refine (HCT.out _ _ _ A2.out.rep).mono ?_
  rintro e w4 ⟨S4,D4,rfl,hr4,st4⟩
  have A4 := hQ_ (A2.out.step HS.out hr4 st4)
  clear st4 hr4
  go_wp2_with fail
  go_ret
  exact wrote_one HQ.out (Sm.refl s) (Nat.le_refl _) (Nat.le_refl _) A4.out.rep A4.out.st
 ·have HST := hQ_ (fun (w1 : World) (S1 D1 : Nat → Prop) (hr1 : Rep w1 v s S1 D1) => hT (kD ino which) (str (cut0 xs)) hr1 hl (by omega) (by rw [str_size]; have := cut0_len xs; have := hx.1; omega))
  have HQ : Hid (putP ino which xs s.shown = ⟨kD ino which,str (cut0 xs),false⟩) := hQ_ (by rw [HP.out,decide_eq_false he])
  have d1 : (str (cut0 xs)).toList.isEmpty = false := by
   rw [List.isEmpty_eq_false_iff]
   intro h
   have h2 := congrArg List.length h
   rw [ByteArray.toList_eq] at h2
   have hz : (str (cut0 xs)).data.toList.length = (str (cut0 xs)).size := by rw [Array.length_toList]; rfl
   rw [hz] at h2
   have h3 : (str (cut0 xs)).size = 0 := h2
   rw [str_size] at h3
   exact he (List.eq_nil_of_length_eq_zero h3)
  generalize str (cut0 xs) = z at *
  clear hr hl hW hx he HP hks
  go_enter Tryz.func132,Tryz.ntmps132
  go_wp2_with fail
  refine (HB.out _).mono ?_
  rintro e w2 ⟨rfl,hb2⟩
  have A2 := hQ_ (A0.out.below HS.out hb2)
  have X2 := hQ_ (HX.out.below hb2)
  clear hb2
  have ct := HCV.out _ X2.out
  go_wp2_with fail
  refine (HTR.out _ X2.out).mono ?_
  rintro e w3 ⟨rfl,rfl⟩
  go_wp2_with fail
  refine (HST.out _ _ _ A2.out.rep).mono ?_
  rintro e w4 ⟨S4,D4,rfl,hr4,st4⟩
  have A4 := hQ_ (A2.out.step HS.out hr4 st4)
  clear st4 hr4
  go_wp2_with fail
  go_ret
  exact wrote_one HQ.out (Sm.refl s) (Nat.le_refl _) (Nat.le_refl _) A4.out.rep A4.out.st
end Go.Proofs.YtfalhnomhidkcaaGreatDoor.FileKb
namespace Go.Proofs.YtfalhnomhidkcaaGreatDoor.FileKc
open Go.RowKit
open Byte PackM KeysM KeysL KeysC KeysB TreeM TreeR ViewM NodeM WalkM WalkF WalkKm DirsV FileM FileV Lst Chg TreeL ViewL WalkL WalkV Vat DirsK FileKa FileKb ConvS
open Own hiding keeps
variable {Rep : RepT}
theorem str_txt (t : ByteArray) : str (txt t) = t := by
 have h : (str (txt t)).data = t.data := by
  unfold str txt
  apply Array.toList_inj.1
  rw [List.map_map]
  show (List.map _ t.data.toList).toArray.toList = _
  rw [List.toList_toArray]
  conv => rhs; rw [← List.map_id t.data.toList]
  refine List.map_congr_left fun b _ => ?_
  show UInt8.ofNat ((b.toNat : Int).toNat) = b
  rw [Int.toNat_natCast]
  exact UInt8.ofNat_toNat
 cases t
 exact congrArg ByteArray.mk h
theorem conv_bs (w : World) (t : ByteArray) (hn : t.size ≤ 100000) : ∃ cap w',(convert 9 77 (.string t)).run Tryz.prog w = .ok (.slice (some ⟨w.heap.size,0,none⟩) t.size cap) w' ∧ Bs w' (some ⟨w.heap.size,0,none⟩) t.size (txt t) ∧ t.size ≤ cap ∧ cap ≤ 9223372036854775807 ∧ Below w.heap.size w w' := by
 obtain ⟨cap,w',h1,h2,h3⟩ := conv_fresh (P := Tryz.prog) w 9 77 5 (txt t) t.size (txt_len t) (txt_bd t) Tryz.underlying9 Tryz.underlying77 Tryz.underlying5
 rw [str_txt] at h1
 have h4 := run_bytes_of_string (P := Tryz.prog) w 9 77 5 t Tryz.underlying9 Tryz.underlying77 Tryz.underlying5
 rw [h1] at h4
 have hc : cap = grownCap w t.size 0 5 := by
  simp only [Result.ok.injEq,Value.slice.injEq] at h4
  exact h4.1.2.2
 refine ⟨cap,w',h1,h2.bs,h2.fit,?_,h3⟩
 rw [hc]
 have e : maxLen = 9223372036854775807 := by decide
 have := grownCap_le_maxLen w t.size 0 5 (by rw [e]; omega)
 rw [e] at this
 exact this
theorem shorten_calls (hW : Wk Rep) (hK : LookOk Rep) (hT : SetOk Rep) {w : World} {v : Value} {s : Vs} {S D : Nat → Prop} (ino size : Int) (hr : Rep w v s S D) (hl : Lim s) (h0 : 0 ≤ ino) (h1 : ino ≤ 4294967295) (z0 : 0 ≤ size) (z1 : size ≤ 4096) (hv : (valB s.shown ino (size / 64)).length ≤ 64) :
 Calls Tryz.prog 90 #[v,.int .u32 ino,.int .i64 size] w (Wrote Rep v s (shoPs s.shown ino size) 0 0 S D w) := by
 obtain ⟨q,hq⟩ : ∃ q : Nat,size / 64 = (q : Int) := ⟨(size / 64).toNat,by omega⟩
 obtain ⟨m,hm⟩ : ∃ m : Nat,size % 64 = (m : Int) := ⟨(size % 64).toNat,by omega⟩
 have hqt : size.tdiv 64 = (q : Int) := by rw [Int.tdiv_eq_ediv_of_nonneg z0,hq]
 have hmt : size.tmod 64 = (m : Int) := by rw [Int.tmod_eq_emod_of_nonneg z0,hm]
 have hwq : wrap64 (q : Int) = (q : Int) := by unfold wrap64; omega
 unfold shoPs
 rw [hq] at hv ⊢
 rw [hm]
 rw [Int.toNat_natCast]
 unfold valB at hv ⊢
 obtain ⟨t,b,e1,e2⟩ := got_val (getL (kD ino q) s.shown)
 rw [e2] at hv ⊢
 rw [txt_len] at hv ⊢
 have HLK := hQ_ (fun (w1 : World) (S1 D1 : Nat → Prop) (hr1 : Rep w1 v s S1 D1) => hK (kD ino q) hr1 hl (by have := kd_size ino q; omega))
 rw [e1] at HLK
 have HB := hQ_ (fun w => block_calls ino q w h0 h1 (by omega) (by omega))
 have HS := hQ_ hW.stays
 have A0 := hQ_ (At.start hr)
 by_cases hlt : t.size ≤ m
 ·rw [if_pos hlt]
  have d1 : ((t.size : Int) ≤ (m : Int)) = True := by simpa using hlt
  have d2 : (t.size ≤ m) = True := by simpa using hlt
  clear hr hl hW hK hT e1 e2 hv h0 h1 z0 z1 hq hm
  go_enter Tryz.func90,Tryz.ntmps90
  go_wp2_with fail
  refine (HB.out _).mono ?_
  rintro e w2 ⟨rfl,hb2⟩
  have A2 := hQ_ (A0.out.below HS.out hb2)
  clear hb2
  go_wp2_with fail
  refine (HLK.out _ _ _ A2.out.rep).mono ?_
  rintro e w3 ⟨S3,D3,rfl,hr3,st3⟩
  have A3 := hQ_ (A2.out.step HS.out hr3 st3)
  clear hr3 st3
  go_wp2_with fail
  go_ret
  exact ⟨s,S3,D3,rfl,A3.out.rep,A3.out.st,Aft.nil (Sm.refl s) (Nat.le_refl _) (Nat.le_refl _)⟩
 ·rw [if_neg hlt]
  have d1 : ((t.size : Int) ≤ (m : Int)) = False := by simpa using hlt
  have d2 : (t.size ≤ m) = False := by simpa using hlt
  have f1 : ¬ ((t.size : Int) < (m : Int)) := by omega
  have hsz : (t.extract 0 m).size = m := by rw [ByteArray.size_extract]; omega
  have HCV := hQ_ (fun w => conv_bs w (t.extract 0 m) (by omega))
  have HPT := hQ_ (fun (w1 : World) (S1 D1 : Nat → Prop) (g c : Nat) (hr1 : Rep w1 v s S1 D1) (hx : Bs w1 (some ⟨g,0,none⟩) m ((txt t).take m)) (hc : m ≤ c) (hbig : c ≤ 9223372036854775807) => put_calls hW hT ino q hr1 hl h0 h1 (by omega) (by omega) hx hc hbig (by omega))
  rw [txt_take,hsz] at HCV
  clear hr hl hW hK hT e1 e2 hv h0 h1 z0 z1 hq hm
  go_enter Tryz.func90,Tryz.ntmps90
  go_wp2_with fail
  refine (HB.out _).mono ?_
  rintro e w2 ⟨rfl,hb2⟩
  have A2 := hQ_ (A0.out.below HS.out hb2)
  clear hb2
  go_wp2_with fail
  refine (HLK.out _ _ _ A2.out.rep).mono ?_
  rintro e w3 ⟨S3,D3,rfl,hr3,st3⟩
  have A3 := hQ_ (A2.out.step HS.out hr3 st3)
  clear hr3 st3
  obtain ⟨cap,w4,hrun,hx4,hc4,hb4,hbl⟩ := HCV.out w3
  have A4 := hQ_ (A3.out.below HS.out hbl)
  have X4 := hQ_ hx4
  clear hx4 hbl
  go_wp2_with fail
  refine (HPT.out _ _ _ _ _ A4.out.rep X4.out hc4 hb4).mono ?_
  rintro e w5 ⟨s5,S5,D5,rfl,hr5,st5,af5⟩
  have A5 := hQ_ (A4.out.step HS.out hr5 st5)
  clear hr5 st5
  go_wp2_with fail
  go_ret
  exact ⟨s5,S5,D5,rfl,A5.out.rep,A5.out.st,af5⟩
end Go.Proofs.YtfalhnomhidkcaaGreatDoor.FileKc
namespace Go.Proofs.YtfalhnomhidkcaaGreatDoor.FileKd
open Go.RowKit
open Byte PackM KeysM KeysL TreeR ViewM NodeM NodeL NodeK WalkM WalkF WalkKm DirsV FileM FileV Lst Chg TreeL ViewL WalkL WalkV Vat DirsK Cpy FileKa FileKb
open TreeM hiding cutL
open Own hiding keeps
variable {Rep : RepT}
def u8E : Enc Int := ⟨fun x => [.int .u8 x],1,fun _ => rfl,fun x u hu => by
 rw [List.mem_singleton.1 hu]; rfl,by decide⟩
theorem info_u8 : (Tryz.prog.info? 5).map (fun i => (i.zero,i.size,i.bytes)) = some (some (.int .u8 0),u8E.size,1) := by kernel_rfl
structure PcOk (p : Int × Int × Int) : Prop where
 b0 : 0 ≤ p.1
 b1 : p.1 ≤ 63
 f0 : 0 ≤ p.2.1
 m0 : 1 ≤ p.2.2
 m1 : p.2.1 + p.2.2 ≤ 64
theorem cuts_ok : ∀ (f : Nat) {a n : Int},0 ≤ a → a + n ≤ 4096 → ∀ p ∈ cuts f a n,PcOk p
 | 0,a,n,_,_,p,hp => by cases hp
 | f + 1,a,n,ha,hn,p,hp => by
   unfold cuts at hp
   split at hp
   ·cases hp
   ·rcases List.mem_cons.1 hp with rfl | hp
    ·exact ⟨by show 0 ≤ a / 64; omega,by show a / 64 ≤ 63; omega,by show 0 ≤ a % 64; omega,by show 1 ≤ min n (64 - a % 64); omega,by show a % 64 + min n (64 - a % 64) ≤ 64; omega⟩
    ·exact cuts_ok f (by omega) (by omega) p hp
theorem cutL_ok {a n : Int} : ∀ p ∈ cutL a n,PcOk p := fun p hp => by
 unfold cutL at hp
 split at hp
 ·cases hp
 ·exact cuts_ok _ (by omega) (by omega) p hp
theorem cutL_len (a n : Int) : (cutL a n).length ≤ 4096 := by
 unfold cutL
 split
 ·exact Nat.zero_le _
 ·exact Nat.le_trans (cuts_len _ _ _) (by omega)
theorem rdL_next (L : List Pr) (ino : Int) {P : List (Int × Int × Int)} {k : Nat} {p : Int × Int × Int} (h : P[k]? = some p) : rdL L ino (P.take k) ++ pcB L ino p = rdL L ino (P.take (k + 1)) := by
 unfold rdL
 rw [List.take_add_one,h,Option.toList_some,List.flatMap_append,List.flatMap_singleton]
theorem tr_cells {w : World} {b o : Nat} {x : Int × Int × Int} (h : w.rangeAt b o (trE.cells x)) : w.cell? ⟨b,o,none⟩ = some (.int .i64 x.1) ∧ w.cell? ⟨b,o + 1,none⟩ = some (.int .i64 x.2.1) ∧ w.cell? ⟨b,o + 2,none⟩ = some (.int .i64 x.2.2) := by
 have h0 := h 0 _ rfl
 have h1 := h 1 _ rfl
 have h2 := h 2 _ rfl
 exact ⟨h0,h1,h2⟩
theorem sl_blk {w : World} {g : Nat} {l : List Int} {T : TypeId} (h : Blk w g (u8A l) T) (f q : Nat) (hl : f + q ≤ l.length) : Sl u8E w (some ⟨g,f,none⟩) q ((l.drop f).take q) := by
 have h0 : Sl u8E w (some ⟨g,0,none⟩) l.length l := ⟨rfl,fun j x hj => ⟨g,0,rfl,h.lt,fun i u hu => by
  cases i with
  | zero =>
    have e : u = .int .u8 x := by
     have : some (Value.int .u8 x) = some u := hu
     injection this with this
     exact this.symm
    rw [e]
    show w.cell? ⟨g,0 + j * 1 + 0,none⟩ = _
    rw [Nat.zero_add,Nat.mul_one,Nat.add_zero,h.cell j]
    unfold u8A
    rw [List.getElem?_toArray,List.getElem?_map,hj]
    rfl
  | succ i =>
    have : (none : Option Value) = some u := hu
    cases this⟩⟩
 have h1 := (h0.drop f).take q (by omega)
 have e : 0 + f * u8E.size = f := by show 0 + f * 1 = f; omega
 rw [e] at h1
 exact h1
theorem slice64 (w : World) (g f q : Nat) (h : f + q ≤ 64) (hq : 1 ≤ q) : (Instr.sliceAt 195 (.pointer (some ⟨g,0,none⟩)) (some (.int .i64 (f : Int))) (some (.int .i64 ((f : Int) + (q : Int)))) none).run Tryz.prog w = .ok (.slice (some ⟨g,f,none⟩) q (64 - f)) w := by
 have ht : Tryz.prog.underlying 195 = some (.array (Tryz.prog.arrayLen 195) (Tryz.prog.elem 195)) := by kernel_rfl
 have e64 : Tryz.prog.arrayLen 195 = 64 := by kernel_rfl
 have ee : Tryz.prog.elem 195 = 5 := by kernel_rfl
 rw [run_sliceAt_array_lh w 195 ⟨g,0,none⟩ ht .i64 .i64 (f : Int) ((f : Int) + (q : Int)) (by omega) (by omega) (by rw [e64]; omega),ee,Tryz.sizeOf5,e64]
 have h1 : ((f : Int) + (q : Int)).toNat = f + q := by omega
 rw [h1,Int.toNat_natCast]
 unfold slicedAt
 show Result.ok (Value.slice (some (if 64 = f then (⟨g,0,none⟩ : Addr) else (⟨g,0,none⟩ : Addr).add (f * 1))) (f + q - f) (64 - f)) w = _
 rw [if_neg (by omega),Nat.add_sub_cancel_left,Nat.mul_one]
 simp [Addr.add]
 exact fun h => h.symm
theorem wpList_slice {P : Program} {w : World} {ops : Array Oper} {rest : List Oper} {o : Oper} {a : Act} {Q : Exit → Act → World → Prop} (hgd : o.guard = none) (t : TypeId) (x : Operand) (lo hi mx : Option Operand) (ho : o.op = .slice t x lo hi mx) (r : Value) (hr : (Instr.sliceAt t (a.eval x) (lo.map a.eval) (hi.map a.eval) (mx.map a.eval)).run P w = .ok r w) (h : wpList P ops Q rest (a.put o.dst r) w) : wpList P ops Q (o :: rest) a w := by
 refine wpList_plain hgd fun K hK => ?_
 unfold Oper.wp execOp
 simp only [ho,Sem.run_bind,hr,Result.andThen_ok,Sem.run_pure]
 exact hK _ _ h
theorem so_chg {α : Type} {e : Enc α} {T : TypeId} {S : Nat → Prop} {w w' : World} {base n : Nat} {u : Value} {L : List α} (h : So e T w base u n L) (k : Chg S w w') (hA : ∀ b,u.ownBlock = some b → ¬ S b) : So e T w' base u n L := by
 obtain ⟨h1,h2,h4⟩ := h
 refine ⟨h1,h2,?_⟩
 rcases h4 with h4 | ⟨g,cap,cur,e1,e2,e3,rest⟩
 ·exact .inl h4
 ·have hlt : g < w.heap.size := by
   rcases Nat.lt_or_ge g w.heap.size with h | h
   ·exact h
   ·rw [Array.getElem?_eq_none h] at e3; cases e3
  exact .inr ⟨g,cap,cur,e1,e2,(k.block g hlt (hA g (by rw [e1]; rfl))).trans e3,rest⟩
theorem at_grown {α : Type} {e : Enc α} {T : TypeId} {M M' S0 D0 S D : Nat → Prop} {w0 w w' : World} {v u u' : Value} {s : Vs} {base n : Nat} {L : List α} (hS : Stays Rep) (p : At Rep w0 S0 D0 M w v s S D) (h : So e T w base u n L) (hr : ∀ r,u.ownBlock = some r → M r) (hne : 100 ≠ T ∧ 172 ≠ T) (hg : w.grownBy w' u.ownBlock) (ho : u'.ownBlock = u.ownBlock ∨ u'.ownBlock = some w.heap.size) {n' : Nat} {L' : List α} (h' : So e T w' base u' n' L') (hM : ∀ b,M' b → M b ∨ u'.ownBlock = some b) : At Rep w0 S0 D0 M' w' v s S D := by
 have q := p.grown hS h hr hne hg
 refine ⟨q.rep,q.st,fun b hb => ?_⟩
 rcases hM b hb with h1 | h1
 ·exact q.mine b h1
 ·rcases ho with h2 | h2
  ·exact q.mine b (hr b (by rw [← h2]; exact h1))
  ·rw [h2] at h1
   injection h1 with h1
   subst h1
   have h3 := p.st.chg.size
   exact ⟨h3,(h'.lt h2).2,fun hd => by have := hS.lt p.rep _ hd; omega⟩
theorem read_calls (hW : Wk Rep) (hK : LookOk Rep) {w : World} {v : Value} {s : Vs} {S D : Nat → Prop} (ino a n : Int) (hr : Rep w v s S D) (hl : Lim s) (h0 : 0 ≤ ino) (h1 : ino ≤ 4294967295) (a0 : 0 ≤ a) (a1 : a ≤ 9223372036854775807) (n0 : -9223372036854775808 ≤ n) (n1 : n ≤ 9223372036854775807) (hv : ∀ q,0 ≤ q → q ≤ 63 → (valL ((getL (kD ino q) s.shown).map (·.value))).length ≤ 64) :
 Calls Tryz.prog 85 #[v,.int .u32 ino,.int .i64 a,.int .i64 n] w (fun e w' => ∃ u m S' D',e = .returned u ∧ So u8E 5 w' w.heap.size u m (rdL s.shown ino (cutL a n)) ∧ Rep w' v s S' D' ∧ Stp S D S' D' w w' ∧ ∀ b,u.ownBlock = some b → ¬ D' b) := by
 have HG := hQ_ (fun (q : Int) (w1 : World) (S1 D1 : Nat → Prop) (hr1 : Rep w1 v s S1 D1) (b0 : 0 ≤ q) (b1 : q ≤ 63) => get_calls hW hK ino q hr1 hl h0 h1 b0 (by omega) (hv q b0 b1))
 have HC := hQ_ (cut_ok a n w (by omega) a1 n0 n1)
 unfold CutE at HC
 have HS := hQ_ hW.stays
 have A0 := hQ_ (At.start hr)
 have HPO : Hid (∀ p ∈ cutL a n,PcOk p) := hQ_ cutL_ok
 have HPL := hQ_ (cutL_len a n)
 generalize cutL a n = P at *
 clear hr hl hW hK hv h0 h1 a0 a1 n0 n1
 go_enter Tryz.func85,Tryz.ntmps85
 go_wp2_with fail
 refine HC.out.mono ?_
 rintro e w1 ⟨PA,pn,pc,rfl,hso,hb1⟩
 have HP := hQ_ hso
 clear hso
 have HPA : Hid (∀ b o,PA = some ⟨b,o,none⟩ → w.heap.size ≤ b ∧ b < w1.heap.size) := hQ_ (fun b o e => HP.out.lt (by rw [e]; rfl))
 have A2 := hQ_ (A0.out.owns HS.out hb1 (Q := fun b => ∃ o,PA = some ⟨b,o,none⟩) (fun b ⟨o,e⟩ => HPA.out b o e))
 clear hb1
 go_wp2_with fail
 go_loopw [9,20] (fun u i wr => ∃ (k m : Nat) (S' D' : Nat → Prop),i = .int .i64 k ∧ k ≤ pn ∧ Hid (So u8E 5 wr w.heap.size u m (rdL s.shown ino (P.take k))) ∧ Hid (At Rep w S D (fun b => u.ownBlock = some b ∨ ∃ o,PA = some ⟨b,o,none⟩) wr v s S' D') ∧ Hid (So trE 194 wr w.heap.size (.slice PA pn pc) pn P) ∧ Hid (m ≤ 64 * k)) (fun _ i _ => pn - (intOf i).toNat)
 case atStart => exact ⟨0,0,S,D,rfl,Nat.zero_le _,hQ_ (So.nil_ _ _ _ _),hQ_ (A2.out.less (fun b h => by rcases h with h | h; cases h; exact .inr h)),HP,hQ_ (Nat.zero_le _)⟩
 case round =>
  obtain ⟨k,m,S',D',rfl,hk,HO,HA,HL,HM⟩ := hrel
  by_cases hlt : k < pn
  ·obtain ⟨p,g,o,hp,rfl,hg,hcl⟩ := HL.out.sl.get k hlt
   have hok := HPO.out p (List.mem_of_getElem? hp)
   have HNX := hQ_ (rdL_next s.shown ino hp)
   obtain ⟨p1,p2,p3⟩ := p
   obtain ⟨o1,o2,o3,o4,o5⟩ := hok
   dsimp only at o1 o2 o3 o4 o5
   obtain ⟨f,rfl⟩ : ∃ f : Nat,p2 = (f : Int) := ⟨p2.toNat,by omega⟩
   obtain ⟨q,rfl⟩ : ∃ q : Nat,p3 = (q : Int) := ⟨p3.toNat,by omega⟩
   obtain ⟨c1,c2,c3⟩ := tr_cells hcl
   dsimp only at c1 c2 c3
   go_wp2_with ((with_reducible refine pick (some 23) ?_); refine wpList_load_mid rfl 194 _ rfl g (o + k * 3) rfl [.int .i64 p1,.int .i64 (f : Int),.int .i64 (q : Int)] _ hcl Tryz.underlying194 rfl info3 ?_)
   have Z := Blk.new_ wr #[.int .i64 p1,.int .i64 (f : Int),.int .i64 (q : Int)] 194
   have z1 : _ = some (Value.int .i64 p1) := Z.cell 0
   have z2 : _ = some (Value.int .i64 (f : Int)) := Z.cell 1
   have z3 : _ = some (Value.int .i64 (q : Int)) := Z.cell 2
   have hb2 : Below wr.heap.size wr (wr.alloc (.cells #[.int .i64 p1,.int .i64 (f : Int),.int .i64 (q : Int)] 194)).drew := (bW_).drew
   have A3 := hQ_ (HA.out.below HS.out hb2)
   have O3 := hQ_ (HO.out.below hb2)
   have L3 := hQ_ (HL.out.below hb2)
   have G3 := hQ_ (HG.out p1 _ _ _ A3.out.rep o1 o2)
   clear hcl c1 c2 c3 hb2
   go_region
   clear z1 z2 z3 Z
   go_wp2_with fail
   refine G3.out.mono ?_
   rintro e w4 ⟨S4,D4,rfl,hr4,st4⟩
   have A4 := hQ_ (A3.out.step HS.out hr4 st4)
   have O4 := hQ_ (so_chg O3.out st4.chg (fun b hb => A3.out.apart HS.out (.inl hb)))
   have L4 := hQ_ (so_chg L3.out st4.chg (fun b hb => by cases hb; exact A3.out.apart HS.out (.inr ⟨o,rfl⟩)))
   clear hr4 st4
   unfold BlkV
   have hgl := getB_len s.shown ino p1
   have HPC : Hid (pcB s.shown ino (p1,(f : Int),(q : Int)) = ((getB s.shown ino p1).drop f).take q) := hQ_ (by unfold pcB; rw [Int.toNat_natCast,Int.toNat_natCast])
   generalize getB s.shown ino p1 = l at *
   have hbz := bN_ w4 (.cells Z64 195)
   have R5 : Hid (Blk (w4.alloc (.cells Z64 195)) w4.heap.size (u8A (List.replicate 64 0)) 195) := hQ_ (Blk.new_ w4 Z64 _)
   go_wp2_with ((with_reducible refine pick none ?_); refine store_blk rfl 195 _ _ rfl w4.heap.size (u8A l) rfl rfl 195 _ R5.out (by rw [u8A_size,hgl]; exact info64) (by rw [u8A_size,u8A_size,hgl,List.length_replicate]) (u8A_all _) ?_; intro w5 hk5 hg5)
   have HB5 : Below w4.heap.size w4 w5 := hbz.grown hg5 hbz.size (fun k hk => by injection hk with hk; omega)
   have A5 := hQ_ (A4.out.below HS.out HB5)
   have O5 := hQ_ (O4.out.below HB5)
   have L5 := hQ_ (L4.out.below HB5)
   have K5 := hQ_ (sl_blk hk5 f q (by omega))
   rw [← HPC.out] at K5
   have hz5 := A5.out.size
   have hm := HM.out
   have hln := HP.out.1
   have hpl := HPL.out
   go_wp2_with fail
   rw [slice64 w5 w4.heap.size f q (by omega) (by omega)]
   rw [Result.andThen_ok]
   unfold Oper.upon
   dsimp only
   refine (‹∀ (a : Act) (w : World),wpList Tryz.prog _ _ _ a w → _›) _ _ ?_
   refine wpList_append_lst u8E 5 rfl _ _ _ rfl Tryz.underlying77 info_u8 rfl w.heap.size u9 m (rdL s.shown ino (P.take k)) rfl O5.out w4.heap.size f q (64 - f) (pcB s.shown ino (p1,(f : Int),(q : Int))) rfl K5.out (m + q) rfl (rdL s.shown ino (P.take (k + 1))) HNX.out (by unfold maxLen; omega) (by omega) hz5 ?_
   intro v6 w6 ho6 hg6 hat6 _
   go_wp2_with fail
   have A6 := hQ_ (at_grown (M' := fun b => v6.ownBlock = some b ∨ ∃ o',(some ⟨g,o,none⟩ : Option Addr) = some ⟨b,o',none⟩) HS.out A5.out O5.out (fun r e => .inl e) (by decide) hg6 hat6 ho6 (fun b hb => by
    rcases hb with hb | hb
    ·exact .inr hb
    ·exact .inl (.inr hb)))
   have L6 := hQ_ (L5.out.grown hg6 (L5.out.ne O5.out (by decide)))
   go_roundw
   case rel => exact ⟨k + 1,m + q,S4,D4,by go_num,by omega,hQ_ ho6,A6,L6,hQ_ (by omega)⟩
   case measure => simp [intOf]; omega
  ·obtain rfl : k = pn := by omega
   have hPk : P.take k = P := List.take_of_length_le (by rw [HP.out.1]; exact Nat.le_refl _)
   have hO := HO.out
   rw [hPk] at hO
   have A9 := HA
   go_wp2_with fail
   go_ret
   exact ⟨_,_,S',D',rfl,hO,A9.out.rep,A9.out.st,fun b hb => (A9.out.mine b (.inl hb)).2.2⟩
end Go.Proofs.YtfalhnomhidkcaaGreatDoor.FileKd
namespace Go.Proofs.YtfalhnomhidkcaaGreatDoor.FileN
open Byte PackM KeysM TreeM ViewKm WalkM WalkF WalkKm DirsV DirsX FileM FileV
open NodeM hiding gk
open ViewM hiding putP
def pf (l : List Int) : Nat → Int := fun i => l.getD i 0
theorem pf_far {l : List Int} {i : Nat} (h : l.length ≤ i) : l.getD i 0 = 0 := by
 rw [List.getD_eq_getElem?_getD,List.getElem?_eq_none h]; rfl
theorem app0_get (x : List Int) (k i : Nat) (hi : i < (x ++ List.replicate k 0).length) : (x ++ List.replicate k (0 : Int))[i] = x.getD i 0 := by
 rw [List.getElem_append]
 split
 ·rename_i h
  rw [List.getD_eq_getElem?_getD,List.getElem?_eq_getElem h]; rfl
 ·rename_i h
  rw [List.getElem_replicate,pf_far (by omega)]
theorem cut0_ext {l m : List Int} (h : ∀ i,l.getD i 0 = m.getD i 0) : cut0 l = cut0 m := by
 rw [← cut0_app0 l m.length,← cut0_app0 m l.length]
 congr 1
 refine List.ext_getElem (by simp; omega) (fun i h1 h2 => ?_)
 rw [app0_get,app0_get]
 exact h i
theorem take_get (l : List Int) (n i : Nat) : (l.take n).getD i 0 = if i < n then l.getD i 0 else 0 := by
 rw [List.getD_eq_getElem?_getD,List.getElem?_take]
 split
 ·rw [List.getD_eq_getElem?_getD]
 ·rfl
theorem drop_get (l : List Int) (n i : Nat) : (l.drop n).getD i 0 = l.getD (n + i) 0 := by
 rw [List.getD_eq_getElem?_getD,List.getElem?_drop,List.getD_eq_getElem?_getD]
theorem app_get (l m : List Int) (i : Nat) : (l ++ m).getD i 0 = if i < l.length then l.getD i 0 else m.getD (i - l.length) 0 := by
 rw [List.getD_eq_getElem?_getD]
 split
 ·rename_i h
  rw [List.getElem?_append_left h,List.getD_eq_getElem?_getD]
 ·rename_i h
  rw [List.getElem?_append_right (by omega),List.getD_eq_getElem?_getD]
theorem rep_get (k i : Nat) : (List.replicate k (0 : Int)).getD i 0 = 0 := by
 rw [List.getD_eq_getElem?_getD,List.getElem?_replicate]
 split <;> rfl
theorem cut0_get (l : List Int) (i : Nat) : (cut0 l).getD i 0 = l.getD i 0 := by
 obtain ⟨k,hk⟩ := cut0_spec l
 conv => rhs; rw [hk]
 rw [app_get]
 split
 ·rfl
 ·rw [rep_get,pf_far (by omega)]
def bfun (φ : Nat → Int) (q : Nat) : List Int := (List.range 64).map fun i => φ (64 * q + i)
theorem bfun_len (φ : Nat → Int) (q : Nat) : (bfun φ q).length = 64 := by unfold bfun; simp
theorem bfun_get (φ : Nat → Int) (q i : Nat) : (bfun φ q).getD i 0 = if i < 64 then φ (64 * q + i) else 0 := by
 split
 ·rename_i h
  unfold bfun
  rw [List.getD_eq_getElem?_getD,List.getElem?_map,List.getElem?_range h]; rfl
 ·rename_i h
  exact pf_far (by rw [bfun_len]; omega)
theorem bfun_congr {φ ψ : Nat → Int} {q : Nat} (h : ∀ i,i < 64 → φ (64 * q + i) = ψ (64 * q + i)) : bfun φ q = bfun ψ q := by
 unfold bfun
 exact List.map_congr_left fun i hi => h i (List.mem_range.1 hi)
def bG (φ : Nat → Int) (w : Int) : Option ByteArray := if cut0 (bfun φ w.toNat) = [] then none else some (str (cut0 (bfun φ w.toNat)))
theorem bG_congr {φ ψ : Nat → Int} {w : Int} (h : ∀ i,i < 64 → φ (64 * w.toNat + i) = ψ (64 * w.toNat + i)) : bG φ w = bG ψ w := by unfold bG; rw [bfun_congr h]
theorem blkL_fun (d : ByteArray) (w : Nat) : blkL d w = cut0 (bfun (pf (txt d)) w) := by
 unfold blkL
 refine cut0_ext fun i => ?_
 rw [take_get,drop_get,bfun_get]
 rfl
theorem blkG_fun (d : ByteArray) (w : Int) : blkG d w = bG (pf (txt d)) w := by
 unfold blkG bG
 rw [blkL_fun]
def Byt (φ : Nat → Int) : Prop := ∀ i,0 ≤ φ i ∧ φ i ≤ 255
theorem byt_pf {l : List Int} (h : ∀ x ∈ l,0 ≤ x ∧ x ≤ 255) : Byt (pf l) := fun i => by
 unfold pf
 rw [List.getD_eq_getElem?_getD]
 cases e : l[i]? with
 | none => exact ⟨by decide,by decide⟩
 | some x => exact h x (List.mem_of_getElem? e)
theorem bfun_bd {φ : Nat → Int} (h : Byt φ) (q : Nat) : ∀ x ∈ bfun φ q,0 ≤ x ∧ x ≤ 255 := fun x hx => by
 unfold bfun at hx
 obtain ⟨i,_,rfl⟩ := List.mem_map.1 hx
 exact h _
def Blks (g : Gf) (ino : Int) (φ : Nat → Int) : Prop := ∀ w,0 ≤ w ∧ w ≤ 65535 → g (kD ino w) = bG φ w
theorem val_fun {φ : Nat → Int} (h : Byt φ) (w : Int) : valL (bG φ w) = cut0 (bfun φ w.toNat) := by
 unfold bG
 split
 ·rename_i e; rw [e]; rfl
 ·exact txt_str _ (fun x hx => bfun_bd h _ x (cut0_mem hx))
theorem pad_self {n : Nat} {l : List Int} (h : l.length = n) : pad n l = l := by
 unfold pad
 rw [← h,List.take_left']
 rfl
section
variable {L : List Pr} {ino : Int} {φ : Nat → Int}
theorem getB_fun (h : Blks (DirsX.gk L) ino φ) (hb : Byt φ) {q : Int} (hq : 0 ≤ q ∧ q ≤ 65535) : getB L ino q = bfun φ q.toNat := by
 have h1 := h q hq
 unfold DirsX.gk at h1
 unfold getB
 rw [h1,val_fun hb,pad_cut0,pad_self (bfun_len _ _)]
theorem valB_fun (h : Blks (DirsX.gk L) ino φ) (hb : Byt φ) {q : Int} (hq : 0 ≤ q ∧ q ≤ 65535) : valB L ino q = cut0 (bfun φ q.toNat) := by
 have h1 := h q hq
 unfold DirsX.gk at h1
 unfold valB
 rw [h1,val_fun hb]
def putF (φ : Nat → Int) (a : Nat) (xs : List Int) : Nat → Int := fun i => if a ≤ i ∧ i < a + xs.length then xs.getD (i - a) 0 else φ i
theorem putF_nil (φ : Nat → Int) (a : Nat) : putF φ a [] = φ := by
 funext i
 exact if_neg (by rw [List.length_nil]; omega)
theorem putF_app (φ : Nat → Int) (a : Nat) (xs ys : List Int) : putF (putF φ a xs) (a + xs.length) ys = putF φ a (xs ++ ys) := by
 funext i
 unfold putF
 rw [List.length_append,app_get]
 by_cases h1 : a + xs.length ≤ i ∧ i < a + xs.length + ys.length
 ·rw [if_pos h1,if_pos (by omega),if_neg (by omega)]
  congr 1
  omega
 ·rw [if_neg h1]
  by_cases h2 : a ≤ i ∧ i < a + xs.length
  ·rw [if_pos h2,if_pos (by omega),if_pos (by omega)]
  ·rw [if_neg h2,if_neg (by omega)]
theorem byt_putF (h : Byt φ) {a : Nat} {xs : List Int} (hx : ∀ x ∈ xs,0 ≤ x ∧ x ≤ 255) : Byt (putF φ a xs) := fun i => by
 unfold putF
 split
 ·exact byt_pf hx _
 ·exact h i
theorem setB_get (l xs : List Int) (f i : Nat) (h : f ≤ l.length) : (setB l xs f).getD i 0 = putF (pf l) f xs i := by
 unfold setB putF pf
 rw [app_get,List.length_take,take_get,app_get,drop_get]
 by_cases h1 : i < f
 ·rw [if_pos (by omega),if_pos h1,if_neg (by omega)]
 ·rw [if_neg (by omega)]
  by_cases h2 : i < f + xs.length
  ·rw [if_pos (by omega),if_pos (by omega)]
   congr 1
   omega
  ·rw [if_neg (by omega),if_neg (by omega)]
   congr 1
   omega
theorem setB_fun (φ : Nat → Int) (q f : Nat) (xs : List Int) (h : f + xs.length ≤ 64) : setB (bfun φ q) xs f = bfun (putF φ (64 * q + f) xs) q := by
 have e : (setB (bfun φ q) xs f).length = 64 := by rw [setB_len _ _ _ (by rw [bfun_len]; exact h),bfun_len]
 refine List.ext_getElem (by rw [e,bfun_len]) (fun i h1 h2 => ?_)
 have a1 : (setB (bfun φ q) xs f).getD i 0 = (setB (bfun φ q) xs f)[i] := by rw [List.getD_eq_getElem?_getD,List.getElem?_eq_getElem h1]; rfl
 have a2 : (bfun (putF φ (64 * q + f) xs) q).getD i 0 = (bfun (putF φ (64 * q + f) xs) q)[i] := by rw [List.getD_eq_getElem?_getD,List.getElem?_eq_getElem h2]; rfl
 have hi : i < 64 := by rw [bfun_len] at h2; exact h2
 rw [← a1,← a2,setB_get _ _ _ _ (by rw [bfun_len]; omega),bfun_get,if_pos hi]
 unfold putF pf
 rw [bfun_get,if_pos hi]
 by_cases h3 : f ≤ i ∧ i < f + xs.length
 ·rw [if_pos h3,if_pos (by omega)]
  congr 1
  omega
 ·rw [if_neg h3,if_neg (by omega)]
theorem wr_one (h : Blks (DirsX.gk L) ino φ) (hb : Byt φ) (hr : Rise L) (i0 : 0 ≤ ino) (i1 : ino ≤ 4294967295) {q f m : Int} (hq : 0 ≤ q ∧ q ≤ 65535) (f0 : 0 ≤ f) {ys : List Int} (hm : f.toNat + ys.length ≤ 64) : Blks (DirsX.gk (doneW L (wrP ino (q,f,m) ys L))) ino (putF φ (64 * q.toNat + f.toNat) ys) := fun w hw => by
 rw [gk_done hr]
 unfold wrP putP
 dsimp only
 rw [getB_fun h hb hq,setB_fun _ _ _ _ hm]
 by_cases e : w = q
 ·subst e
  rw [show kD ino w = (⟨kD ino w,str (cut0 (bfun (putF φ (64 * w.toNat + f.toNat) ys) w.toNat)),decide (cut0 (bfun (putF φ (64 * w.toNat + f.toNat) ys) w.toNat) = [])⟩ : Pr).key from rfl,setG_same]
  unfold bG
  dsimp only
  by_cases hz : cut0 (bfun (putF φ (64 * w.toNat + f.toNat) ys) w.toNat) = []
  ·rw [if_pos hz,if_pos (by rw [decide_eq_true hz])]
  ·rw [if_neg hz,if_neg (by rw [decide_eq_false hz]; decide)]
 ·rw [setG_ne _ (fun e2 => e (kD_inj i0 i1 i0 i1 hw hq e2).2),h w hw]
  refine bG_congr fun i hi => ?_
  unfold putF
  rw [if_neg (by omega)]
theorem wr_off (hr : Rise L) {q f m : Int} {ys : List Int} {k : ByteArray} (hk : k ≠ kD ino q) : DirsX.gk (doneW L (wrP ino (q,f,m) ys L)) k = DirsX.gk L k := by
 rw [gk_done hr]
 exact setG_ne _ hk
theorem wrs_blks (i0 : 0 ≤ ino) (i1 : ino ≤ 4294967295) : ∀ (fu : Nat) {a n : Int} {xs : List Int} {L : List Pr} {φ : Nat → Int},0 ≤ a → a + n ≤ 4096 → n ≤ fu → (xs.length : Int) = max n 0 → (∀ x ∈ xs,0 ≤ x ∧ x ≤ 255) → Byt φ → Rise L → Blks (DirsX.gk L) ino φ →
 Blks (DirsX.gk (outW L (wrPs ino xs (cuts fu a n)))) ino (putF φ a.toNat xs) ∧ ∀ k,(∀ w,0 ≤ w ∧ w ≤ 65535 → k ≠ kD ino w) → DirsX.gk (outW L (wrPs ino xs (cuts fu a n))) k = DirsX.gk L k := by
 intro fu
 induction fu with
 | zero =>
   intro a n xs L φ a0 h1 h2 hx hxb hb hr h
   have : xs = [] := List.eq_nil_of_length_eq_zero (by omega)
   subst this
   rw [putF_nil]
   exact ⟨h,fun _ _ => rfl⟩
 | succ fu ih =>
   intro a n xs L φ a0 h1 h2 hx hxb hb hr h
   unfold cuts
   by_cases hn : n ≤ 0
   ·have : xs = [] := List.eq_nil_of_length_eq_zero (by omega)
    subst this
    rw [if_pos hn,putF_nil]
    exact ⟨h,fun _ _ => rfl⟩
   ·rw [if_neg hn]
    obtain ⟨m,hm⟩ : ∃ m : Nat,min n (64 - a % 64) = m := ⟨(min n (64 - a % 64)).toNat,by omega⟩
    rw [hm]
    have e1 : (xs.take m).length = m := by rw [List.length_take]; omega
    have hq : 0 ≤ a / 64 ∧ a / 64 ≤ 65535 := by omega
    have A := wr_one (m := (m : Int)) (f := a % 64) (ys := xs.take m) h hb hr i0 i1 hq (by omega) (by omega)
    have e2 : 64 * (a / 64).toNat + (a % 64).toNat = a.toNat := by omega
    rw [e2] at A
    have B := ih (a := a + m) (n := n - m) (xs := xs.drop m) (by omega) (by omega) (by omega) (by rw [List.length_drop]; omega) (fun x hx => hxb x (List.mem_of_mem_drop hx)) (byt_putF hb (a := a.toNat) (fun x hx => hxb x (List.mem_of_mem_take hx))) (rise_done hr _) A
    have e3 : (a + m).toNat = a.toNat + (xs.take m).length := by omega
    rw [e3,putF_app,List.take_append_drop] at B
    have e4 : wrPs ino xs ((a / 64,a % 64,(m : Int)) :: cuts fu (a + m) (n - m)) = wrP ino (a / 64,a % 64,(m : Int)) (xs.take m) :: wrPs ino (xs.drop m) (cuts fu (a + m) (n - m)) := by
     show wrP ino (a / 64,a % 64,(m : Int)) (xs.take (m : Int).toNat) :: wrPs ino (xs.drop (m : Int).toNat) _ = _
     rw [Int.toNat_natCast]
    rw [e4]
    refine ⟨B.1,fun k hk => ?_⟩
    rw [show outW L (wrP ino (a / 64,a % 64,(m : Int)) (xs.take m) :: wrPs ino (xs.drop m) (cuts fu (a + m) (n - m))) = outW (doneW L (wrP ino (a / 64,a % 64,(m : Int)) (xs.take m) L)) (wrPs ino (xs.drop m) (cuts fu (a + m) (n - m))) from rfl,B.2 k hk]
    exact wr_off hr (hk _ hq)
theorem gk_dels : ∀ (ks : List ByteArray) {L : List Pr},Rise L → ∀ k,(k ∈ ks → DirsX.gk (outW L (ks.map delP)) k = none) ∧ (¬ k ∈ ks → DirsX.gk (outW L (ks.map delP)) k = DirsX.gk L k)
 | [],L,hr,k => ⟨fun h => (by cases h),fun _ => rfl⟩
 | x :: ks,L,hr,k => by
   have ih := gk_dels ks (rise_done hr (delP x L)) k
   rw [List.map_cons,show outW L (delP x :: ks.map delP) = outW (doneW L (delP x L)) (ks.map delP) from rfl]
   rw [gk_done hr] at ih
   constructor
   ·intro h
    by_cases h1 : k ∈ ks
    ·exact ih.1 h1
    ·rcases List.mem_cons.1 h with h2 | h2
     ·subst h2
      rw [ih.2 h1]
      exact (setG_same (DirsX.gk L) (delP k L)).trans rfl
     ·exact absurd h2 h1
   ·intro h
    rw [ih.2 (fun h1 => h (List.mem_cons_of_mem _ h1))]
    exact setG_ne _ (fun e => h (by rw [show k = x from e]; exact List.mem_cons_self ..))
theorem drp_map (L : List Pr) (ino from_ : Int) : drpPs L ino from_ = ((L.filter (blkF ino from_)).map (·.key)).map delP := by
 unfold drpPs
 rw [List.map_map]
 rfl
theorem drp_mem (hr : Rise L) (i0 : 0 ≤ ino) (i1 : ino ≤ 4294967295) {from_ w : Int} (hw : 0 ≤ w ∧ w ≤ 65535) : kD ino w ∈ (L.filter (blkF ino from_)).map (·.key) ↔ DirsX.gk L (kD ino w) ≠ none ∧ from_ ≤ w := by
 have es := sp_D ino w i0 i1 hw.1 hw.2
 constructor
 ·intro h
  obtain ⟨p,h1,h2⟩ := List.mem_map.1 h
  obtain ⟨h3,h4⟩ := List.mem_filter.1 h1
  unfold blkF at h4
  rw [h2,es] at h4
  simp at h4
  refine ⟨?_,h4⟩
  unfold DirsX.gk
  rw [(get_iff hr).2 ⟨h3,h2⟩]
  simp
 ·rintro ⟨h1,h2⟩
  cases hg : getL (kD ino w) L with
  | none => unfold DirsX.gk at h1; rw [hg] at h1; exact absurd rfl h1
  | some p =>
    have h3 := (get_iff hr).1 hg
    refine List.mem_map.2 ⟨p,List.mem_filter.2 ⟨h3.1,?_⟩,h3.2⟩
    unfold blkF
    rw [h3.2,es]
    simp
    exact h2
theorem bG_zero {φ : Nat → Int} {w : Int} (h : ∀ i,i < 64 → φ (64 * w.toNat + i) = 0) : bG φ w = none := by
 unfold bG
 refine if_pos (cut0_nil_iff.2 fun x hx => ?_)
 unfold bfun at hx
 obtain ⟨i,hi,rfl⟩ := List.mem_map.1 hx
 exact h i (List.mem_range.1 hi)
theorem drop_blks (h : Blks (DirsX.gk L) ino φ) (hr : Rise L) (i0 : 0 ≤ ino) (i1 : ino ≤ 4294967295) {z : Int} (z0 : 0 ≤ z) :
 Blks (DirsX.gk (outW L (drpPs L ino z))) ino (fun i => if i < 64 * z.toNat then φ i else 0) := fun w hw => by
 rw [drp_map]
 have q := gk_dels ((L.filter (blkF ino z)).map (·.key)) hr (kD ino w)
 by_cases hz : z ≤ w
 ·rw [bG_zero (fun i _ => if_neg (by omega))]
  by_cases hg : DirsX.gk L (kD ino w) = none
  ·rw [q.2 (fun e => ((drp_mem hr i0 i1 hw).1 e).1 hg),hg]
  ·exact q.1 ((drp_mem hr i0 i1 hw).2 ⟨hg,hz⟩)
 ·rw [q.2 (fun e => hz ((drp_mem hr i0 i1 hw).1 e).2),h w hw]
  exact bG_congr fun i hi => (if_pos (by omega)).symm
theorem drop_off (hr : Rise L) {z : Int} {k : ByteArray} (hk : ∀ p ∈ L,p.key = k → blkF ino z p = false) : DirsX.gk (outW L (drpPs L ino z)) k = DirsX.gk L k := by
 rw [drp_map]
 refine (gk_dels ((L.filter (blkF ino z)).map (·.key)) hr k).2 (fun h => ?_)
 obtain ⟨p,h1,h2⟩ := List.mem_map.1 h
 obtain ⟨h3,h4⟩ := List.mem_filter.1 h1
 rw [hk p h3 h2] at h4
 cases h4
theorem sho_blks (h : Blks (DirsX.gk L) ino φ) (hb : Byt φ) (hr : Rise L) (i0 : 0 ≤ ino) (i1 : ino ≤ 4294967295) {z : Int} (z0 : 0 ≤ z) (z1 : z ≤ 4096) :
 Blks (DirsX.gk (outW L (shoPs L ino z))) ino (fun i => if z.toNat ≤ i ∧ i < 64 * (z / 64).toNat + 64 then 0 else φ i) := fun w hw => by
 have hq : 0 ≤ z / 64 ∧ z / 64 ≤ 65535 := by omega
 unfold shoPs
 rw [valB_fun h hb hq]
 by_cases hs : (cut0 (bfun φ (z / 64).toNat)).length ≤ (z % 64).toNat
 ·rw [if_pos hs]
  show DirsX.gk L _ = _
  rw [h w hw]
  refine bG_congr fun i hi => ?_
  split
  ·rename_i hc
   have e : w.toNat = (z / 64).toNat := by omega
   rw [e] at hc ⊢
   have h1 := cut0_get (bfun φ (z / 64).toNat) i
   rw [pf_far (by omega),bfun_get,if_pos hi] at h1
   exact h1.symm
  ·rfl
 ·rw [if_neg hs]
  show DirsX.gk (doneW L (putP ino (z / 64) ((cut0 (bfun φ (z / 64).toNat)).take (z % 64).toNat) L)) _ = _
  rw [gk_done hr]
  unfold putP
  have e9 : cut0 ((cut0 (bfun φ (z / 64).toNat)).take (z % 64).toNat) = cut0 (bfun (fun i => if z.toNat ≤ i ∧ i < 64 * (z / 64).toNat + 64 then 0 else φ i) (z / 64).toNat) := cut0_ext fun i => by
   rw [take_get,cut0_get,bfun_get,bfun_get]
   by_cases h1 : i < 64
   ·rw [if_pos h1,if_pos h1]
    by_cases h2 : i < (z % 64).toNat
    ·rw [if_pos h2,if_neg (by omega)]
    ·rw [if_neg h2,if_pos (by omega)]
   ·rw [if_neg h1,if_neg h1]
    split <;> rfl
  by_cases e : w = z / 64
  ·subst e
   rw [show kD ino (z / 64) = (⟨kD ino (z / 64),str (cut0 ((cut0 (bfun φ (z / 64).toNat)).take (z % 64).toNat)),decide (cut0 ((cut0 (bfun φ (z / 64).toNat)).take (z % 64).toNat) = [])⟩ : Pr).key from rfl,setG_same,e9]
   unfold bG
   dsimp only
   by_cases hz : cut0 (bfun (fun i => if z.toNat ≤ i ∧ i < 64 * (z / 64).toNat + 64 then 0 else φ i) (z / 64).toNat) = []
   ·rw [if_pos hz,if_pos (by rw [decide_eq_true hz])]
   ·rw [if_neg hz,if_neg (by rw [decide_eq_false hz]; decide)]
  ·rw [setG_ne _ (fun e2 => e (kD_inj i0 i1 i0 i1 hw hq e2).2),h w hw]
   exact bG_congr fun i hi => (if_neg (by omega)).symm
theorem sho_off (hr : Rise L) {z : Int} (hq : 0 ≤ z / 64 ∧ z / 64 ≤ 65535) {k : ByteArray} (hk : ∀ w,0 ≤ w ∧ w ≤ 65535 → k ≠ kD ino w) : DirsX.gk (outW L (shoPs L ino z)) k = DirsX.gk L k := by
 unfold shoPs
 split
 ·rfl
 ·show DirsX.gk (doneW L _) _ = _
  rw [gk_done hr]
  exact setG_ne _ (hk _ hq)
end
end Go.Proofs.YtfalhnomhidkcaaGreatDoor.FileN
namespace Go.Proofs.YtfalhnomhidkcaaGreatDoor.FileKe
open Go.RowKit
open Byte PackM KeysM KeysL TreeR ViewM ViewKm NodeM NodeL NodeK WalkM WalkF WalkKm DirsV FileM FileV FileN Lst Chg TreeL ViewL WalkL WalkV Vat DirsK DirsKa Cpy FileKa FileKb FileKd
open TreeM hiding cutL
open Own hiding keeps
variable {Rep : RepT}
def V64 (L : List Pr) (ino : Int) : Prop := ∀ q,0 ≤ q → q ≤ 65535 → (valL ((getL (kD ino q) L).map (·.value))).length ≤ 64
theorem v64_done {L : List Pr} (hr : Rise L) {ino : Int} (h : V64 L ino) {p : Pr} (hp : p.value.size ≤ 64) : V64 (doneW L p) ino := fun q q0 q1 => by
 have e : (getL (kD ino q) (doneW L p)).map (·.value) = DirsX.setG (DirsX.gk L) p (kD ino q) := congrFun (DirsX.gk_done hr p) _
 rw [e]
 unfold DirsX.setG
 split
 ·split
  ·exact Nat.zero_le _
  ·show (txt p.value).length ≤ 64
   rw [txt_len]; exact hp
 ·exact h q q0 q1
theorem v64_write {s : Vs} (ho : s.Ok) {ino : Int} (h : V64 s.shown ino) {p : Pr} (hp : p.value.size ≤ 64) : V64 (s.write p).shown ino := by
 unfold Vs.write
 split
 ·exact h
 ·show V64 (shownL s.base (writeW s.base s.wr p)) ino
  rw [shown_write ho.base ho.wr]
  exact v64_done (rise_shown ho.base _) h hp
theorem go_one (s : Vs) (p : Wrt) : (goW s [p]).1 = s.write (p s.shown) := by
 cases hf : fullW s.wr (p s.shown) with
 | true => rw [goW_full hf,write_room hf]
 | false => rw [goW_room hf]; rfl
theorem aft_one {s s' : Vs} {p q : Wrt} {k m : Nat} (e : p s.shown = q s.shown) (h : Aft s s' [p] k m) : Aft s s' [q] k m := by
 have : goW s [p] = goW s [q] := by unfold goW; rw [e]
 exact ⟨by rw [← this]; exact h.sm,h.rd,h.rg⟩
theorem one_same {s : Vs} {p q : Wrt} (e : p s.shown = q s.shown) : (goW s [p]).2 = (goW s [q]).2 := by rw [one_ok,one_ok,e]
theorem bs_stp {w w' : World} {S : Nat → Prop} {A : Option Addr} {n : Nat} {xs : List Int} (h : Bs w A n xs) (k : Chg S w w') (hA : ∀ b o,A = some ⟨b,o,none⟩ → ¬ S b) : Bs w' A n xs := by
 refine ⟨h.1,h.2.1,fun i hi => ?_⟩
 obtain ⟨b,o,e,hlt,hc⟩ := h.2.2 i hi
 exact ⟨b,o,e,Nat.lt_of_lt_of_le hlt k.size,k.cell (p := ⟨b,o + i,none⟩) hc (hA b o e)⟩
theorem bs_stp0 {w w' : World} {S : Nat → Prop} {A : Option Addr} {n : Nat} {xs : List Int} (h : Bs w A n xs) (k : Chg S w w') (hA : 0 < n → ∀ b o,A = some ⟨b,o,none⟩ → ¬ S b) : Bs w' A n xs := by
 rcases Nat.eq_zero_or_pos n with h0 | h0
 ·subst h0
  exact ⟨h.1,h.2.1,fun i hi => absurd hi (by omega)⟩
 ·exact bs_stp h k (hA h0)
theorem bs_back {w : World} {b o n : Nat} {xs : List Int} (h : Bs w (some ⟨b,o,none⟩) n xs) (k : Nat) (hk : k ≤ n) : Bs w (some ⟨b,o + k,none⟩) (n - k) (xs.drop k) := by
 refine ⟨by rw [List.length_drop,h.1],fun x hx => h.2.1 x (List.mem_of_mem_drop hx),fun i hi => ?_⟩
 obtain ⟨b',o',e,hlt,hc⟩ := h.2.2 (k + i) (by omega)
 injection e with e
 injection e with e1 e2
 subst e1 e2
 exact ⟨b,o + k,rfl,hlt,by rw [Nat.add_assoc,hc,drop_get]⟩
def sumP (P : List (Int × Int × Int)) : Nat := (P.map fun p => p.2.2.toNat).sum
theorem sum_cuts : ∀ (f : Nat) {a n : Int},0 ≤ a → n ≤ f → sumP (cuts f a n) = n.toNat
 | 0,a,n,_,h => by rw [show n.toNat = 0 by omega]; rfl
 | f + 1,a,n,ha,h => by
   unfold cuts
   split
   ·rw [show n.toNat = 0 by omega]; rfl
   ·have := sum_cuts f (a := a + min n (64 - a % 64)) (n := n - min n (64 - a % 64)) (by omega) (by omega)
    unfold sumP at this ⊢
    rw [List.map_cons,List.sum_cons,this]
    dsimp only
    omega
theorem sum_cut {a n : Int} (a0 : 0 ≤ a) (h : a + n ≤ 4096) : sumP (cutL a n) = n.toNat := by
 unfold cutL
 split
 ·rw [show n.toNat = 0 by omega]; rfl
 ·exact sum_cuts _ a0 (by omega)
theorem sum_drop {P : List (Int × Int × Int)} {k : Nat} {p : Int × Int × Int} (h : P[k]? = some p) : sumP (P.drop k) = p.2.2.toNat + sumP (P.drop (k + 1)) := by
 obtain ⟨hk,he⟩ := List.getElem?_eq_some_iff.1 h
 rw [List.drop_eq_getElem_cons hk,he]
 unfold sumP
 rw [List.map_cons,List.sum_cons]
theorem wrPs_next {ino : Int} {xs : List Int} {P : List (Int × Int × Int)} {k : Nat} {p : Int × Int × Int} (h : P[k]? = some p) : wrPs ino xs (P.drop k) = wrP ino p (xs.take p.2.2.toNat) :: wrPs ino (xs.drop p.2.2.toNat) (P.drop (k + 1)) := by
 obtain ⟨hk,he⟩ := List.getElem?_eq_some_iff.1 h
 rw [List.drop_eq_getElem_cons hk,he]
 rfl
structure WrI (s s' : Vs) (ino : Int) (ys xs : List Int) (P Q : List (Int × Int × Int)) (don : List Wrt) : Prop where
 aft : Aft s s' don 0 0
 ok : (goW s don).2 = true
 all : don ++ wrPs ino ys Q = wrPs ino xs P
 v64 : V64 s'.shown ino
 len : ys.length = sumP Q
theorem WrI.lim {s s' : Vs} {ino : Int} {ys xs : List Int} {P Q : List (Int × Int × Int)} {don : List Wrt} (h : WrI s s' ino ys xs P Q don) (hl : Lim s) : Lim s' := lim_aft h.aft hl (by have := hl.rd; omega) (by have := hl.rg; omega)
theorem put_small (ino which : Int) (b : List Int) (L : List Pr) (h : b.length ≤ 64) : (putP ino which b L).value.size ≤ 64 := by
 show (str (cut0 b)).size ≤ 64
 rw [str_size]
 have := cut0_len b
 omega
theorem WrI.next {s s1 s2 : Vs} {ino : Int} {ys xs : List Int} {P : List (Int × Int × Int)} {k : Nat} {don : List Wrt} {p : Int × Int × Int} {b : List Int} (h : WrI s s1 ino ys xs P (P.drop k) don) (ho : s1.Ok) (hp : P[k]? = some p) (hb : setB (getB s1.shown ino p.1) (ys.take p.2.2.toNat) p.2.1.toNat = b) (hlen : b.length ≤ 64) (ha : Aft s1 s2 [putP ino p.1 b] 0 0) (hg : (goW s1 [putP ino p.1 b]).2 = true) :
 ∃ don',WrI s s2 ino (ys.drop p.2.2.toNat) xs P (P.drop (k + 1)) don' := by
 have e : putP ino p.1 b s1.shown = wrP ino p (ys.take p.2.2.toNat) s1.shown := by unfold wrP; rw [hb]
 have h1 := h.aft.app h.ok (aft_one e ha)
 refine ⟨don ++ [wrP ino p (ys.take p.2.2.toNat)],h1.1,by rw [h1.2,← one_same e]; exact hg,?_,?_,?_⟩
 ·rw [List.append_assoc,← h.all,wrPs_next hp]; rfl
 ·rw [ha.sm.shown,go_one]
  exact v64_write ho h.v64 (put_small _ _ _ _ hlen)
 ·rw [List.length_drop,h.len,sum_drop hp]; omega
theorem WrI.stop {s s1 s2 : Vs} {ino : Int} {ys xs : List Int} {P : List (Int × Int × Int)} {k : Nat} {don : List Wrt} {p : Int × Int × Int} {b : List Int} (h : WrI s s1 ino ys xs P (P.drop k) don) (hp : P[k]? = some p) (hb : setB (getB s1.shown ino p.1) (ys.take p.2.2.toNat) p.2.1.toNat = b) (ha : Aft s1 s2 [putP ino p.1 b] 0 0) (hg : (goW s1 [putP ino p.1 b]).2 = false) :
 Aft s s2 (wrPs ino xs P) 0 0 ∧ (goW s (wrPs ino xs P)).2 = false := by
 have e : putP ino p.1 b s1.shown = wrP ino p (ys.take p.2.2.toNat) s1.shown := by unfold wrP; rw [hb]
 have h1 := h.aft.app h.ok (aft_one e ha)
 have h2 : (goW s (don ++ [wrP ino p (ys.take p.2.2.toNat)])).2 = false := by rw [h1.2,← one_same e]; exact hg
 have h3 := h1.1.stop (qs := wrPs ino (ys.drop p.2.2.toNat) (P.drop (k + 1))) h2
 have e4 : don ++ [wrP ino p (ys.take p.2.2.toNat)] ++ wrPs ino (ys.drop p.2.2.toNat) (P.drop (k + 1)) = wrPs ino xs P := by
  rw [← h.all,wrPs_next hp,List.append_assoc]; rfl
 rw [e4] at h3
 exact h3
theorem WrI.done {s s1 : Vs} {ino : Int} {ys xs : List Int} {P : List (Int × Int × Int)} {k : Nat} {don : List Wrt} (h : WrI s s1 ino ys xs P (P.drop k) don) (hk : P.length ≤ k) : Aft s s1 (wrPs ino xs P) 0 0 ∧ (goW s (wrPs ino xs P)).2 = true := by
 have e : don = wrPs ino xs P := by
  have := h.all
  rw [List.drop_eq_nil_of_le hk] at this
  simpa [wrPs] using this
 rw [← e]
 exact ⟨h.aft,h.ok⟩
theorem slice64l (w : World) (g f : Nat) (h : f ≤ 63) : (Instr.sliceAt 195 (.pointer (some ⟨g,0,none⟩)) (some (.int .i64 (f : Int))) none none).run Tryz.prog w = .ok (.slice (some ⟨g,f,none⟩) (64 - f) (64 - f)) w := by
 have ht : Tryz.prog.underlying 195 = some (.array (Tryz.prog.arrayLen 195) (Tryz.prog.elem 195)) := by kernel_rfl
 have e64 : Tryz.prog.arrayLen 195 = 64 := by kernel_rfl
 have ee : Tryz.prog.elem 195 = 5 := by kernel_rfl
 rw [run_sliceAt_array_l w 195 ⟨g,0,none⟩ ht .i64 (f : Int) (by omega) (by rw [e64]; omega),ee,Tryz.sizeOf5,e64]
 rw [Int.toNat_natCast]
 unfold slicedAt
 show Result.ok (Value.slice (some (if 64 = f then (⟨g,0,none⟩ : Addr) else (⟨g,0,none⟩ : Addr).add (f * 1))) (64 - f) (64 - f)) w = _
 rw [if_neg (by omega),Nat.mul_one]
 simp [Addr.add]
 exact fun h => h.symm
theorem slice64a (w : World) (g : Nat) : (Instr.sliceAt 195 (.pointer (some ⟨g,0,none⟩)) none none none).run Tryz.prog w = .ok (.slice (some ⟨g,0,none⟩) 64 64) w := by
 have ht : Tryz.prog.underlying 195 = some (.array (Tryz.prog.arrayLen 195) (Tryz.prog.elem 195)) := by kernel_rfl
 have e64 : Tryz.prog.arrayLen 195 = 64 := by kernel_rfl
 have ee : Tryz.prog.elem 195 = 5 := by kernel_rfl
 rw [run_sliceAt_array_all w 195 ⟨g,0,none⟩ ht,ee,Tryz.sizeOf5,e64]
 rfl
theorem slice_bh (w : World) (A : Option Addr) (m d q : Nat) (h : q ≤ d) : (Instr.sliceAt 77 (.slice A m d) none (some (.int .i64 (q : Int))) none).run Tryz.prog w = .ok (.slice A q d) w := by
 have ht : Tryz.prog.underlying 77 = some (.slice (Tryz.prog.elem 77)) := by kernel_rfl
 have ee : Tryz.prog.elem 77 = 5 := by kernel_rfl
 rw [run_sliceAt_slice w 77 _ _ _ _ ht,run_slice_h w 77 A m d ht .i64 (q : Int) (by omega) (by omega),ee,Tryz.sizeOf5,Int.toNat_natCast]
 cases A <;> simp [sliced,Addr.add]
theorem slice_bl (w : World) (b o m d q : Nat) (h : q ≤ m) (h2 : m ≤ d) : ∃ A,(Instr.sliceAt 77 (.slice (some ⟨b,o,none⟩) m d) (some (.int .i64 (q : Int))) none none).run Tryz.prog w = .ok (.slice A (m - q) (d - q)) w ∧ (A = some ⟨b,o + q,none⟩ ∨ (m = q ∧ A = some ⟨b,o,none⟩)) := by
 have ht : Tryz.prog.underlying 77 = some (.slice (Tryz.prog.elem 77)) := by kernel_rfl
 have ee : Tryz.prog.elem 77 = 5 := by kernel_rfl
 rw [run_sliceAt_slice w 77 _ _ _ _ ht,run_slice_l w 77 _ m d ht .i64 (q : Int) (by omega) (by omega),ee,Tryz.sizeOf5,Int.toNat_natCast]
 by_cases hd : d = q
 ·exact ⟨some ⟨b,o,none⟩,by simp [sliced,hd],.inr ⟨by omega,rfl⟩⟩
 ·refine ⟨some ⟨b,o + q,none⟩,?_,.inl rfl⟩
  simp [sliced,Addr.add,hd]
  try omega
theorem blk_bs {w : World} {g : Nat} {l : List Int} {T : TypeId} (h : Blk w g (u8A l) T) (hb : ∀ x ∈ l,0 ≤ x ∧ x ≤ 255) : Bs w (some ⟨g,0,none⟩) l.length l := by
 refine ⟨rfl,hb,fun k hk => ⟨g,0,rfl,h.lt,?_⟩⟩
 rw [Nat.zero_add,h.cell k]
 unfold u8A
 rw [List.getElem?_toArray,List.getElem?_map,List.getElem?_eq_getElem hk,List.getD_eq_getElem?_getD,List.getElem?_eq_getElem hk]
 rfl
theorem getB_bd (L : List Pr) (ino q : Int) : ∀ x ∈ getB L ino q,0 ≤ x ∧ x ≤ 255 := fun x hx => by
 have h1 : ∀ x ∈ valL ((getL (kD ino q) L).map (·.value)),0 ≤ x ∧ x ≤ 255 := by
  cases (getL (kD ino q) L).map (·.value) with
  | none => intro x hx; cases hx
  | some t => exact txt_bd t
 unfold getB pad at hx
 rcases List.mem_append.1 (List.mem_of_mem_take hx) with h | h
 ·exact h1 x h
 ·rw [List.eq_of_mem_replicate h]; exact ⟨by decide,by decide⟩
theorem setb_bd {l xs : List Int} {f : Nat} (h : ∀ x ∈ l,0 ≤ x ∧ x ≤ 255) (h2 : ∀ x ∈ xs,0 ≤ x ∧ x ≤ 255) : ∀ x ∈ setB l xs f,0 ≤ x ∧ x ≤ 255 := fun x hx => by
 unfold setB at hx
 rcases List.mem_append.1 hx with h3 | h3
 ·exact h x (List.mem_of_mem_take h3)
 ·rcases List.mem_append.1 h3 with h4 | h4
  ·exact h2 x h4
  ·exact h x (List.mem_of_mem_drop h4)
theorem off_of {w w1 : World} {S D M S' D' : Nat → Prop} {v : Value} {s1 : Vs} {A B : Option Addr} (p : At Rep w S D M w1 v s1 S' D') (hA : ∀ b o,A = some ⟨b,o,none⟩ → ¬ S b ∧ b < w.heap.size) (hB : ∀ b o,B = some ⟨b,o,none⟩ → ∃ o',A = some ⟨b,o',none⟩) : ∀ b o,B = some ⟨b,o,none⟩ → ¬ S' b ∧ b < w.heap.size := fun b o e => by
 obtain ⟨o',e'⟩ := hB b o e
 have h := hA b o' e'
 refine ⟨fun hs => ?_,h.2⟩
 rcases p.st.own b hs with q | q
 ·exact h.1 q
 ·omega
theorem so_off {α : Type} {e : Enc α} {T : TypeId} {w : World} {base n g : Nat} {u : Value} {L : List α} (h : So e T w base u n L) (hg : w.heap.size ≤ g) : u.ownBlock = none ∨ u.ownBlock ≠ some g := by
 cases hv : u.ownBlock with
 | none => exact .inl rfl
 | some k => exact .inr (fun e => by injection e with e; have := (h.lt hv).2; omega)
theorem bs_grown {w w' : World} {A : Option Addr} {n g : Nat} {xs : List Int} (h : Bs w A n xs) (k : w.grownBy w' (some g)) (hA : ∀ b o,A = some ⟨b,o,none⟩ → b ≠ g) : Bs w' A n xs :=
 bs_stp (S := fun b => b = g) h (Chg.of_grown k (fun i e => .inl (by injection e with e; exact e.symm))) hA
theorem bs_grown0 {w w' : World} {A : Option Addr} {n g : Nat} {xs : List Int} (h : Bs w A n xs) (k : w.grownBy w' (some g)) (hA : 0 < n → ∀ b o,A = some ⟨b,o,none⟩ → b ≠ g) : Bs w' A n xs :=
 bs_stp0 (S := fun b => b = g) h (Chg.of_grown k (fun i e => .inl (by injection e with e; exact e.symm))) hA
theorem write_calls (hW : Wk Rep) (hK : LookOk Rep) (hT : SetOk Rep) {w : World} {v : Value} {s : Vs} {S D : Nat → Prop} (ino a : Int) {A : Option Addr} {n c : Nat} {xs : List Int} (hr : Rep w v s S D) (hl : Lim s) (h0 : 0 ≤ ino) (h1 : ino ≤ 4294967295) (a0 : 0 ≤ a) (an : a + n ≤ 4096) (hx : Bs w A n xs) (hc : n ≤ c) (hbig : c ≤ 9223372036854775807) (hA : ∀ b o,A = some ⟨b,o,none⟩ → ¬ S b ∧ b < w.heap.size) (hv : V64 s.shown ino) :
 Calls Tryz.prog 87 #[v,.int .u32 ino,.int .i64 a,.slice A n c] w (Wrote Rep v s (wrPs ino xs (cutL a n)) 0 0 S D w) := by
 have HG := hQ_ (fun (q : Int) (w1 : World) (s1 : Vs) (S1 D1 : Nat → Prop) (hr1 : Rep w1 v s1 S1 D1) (hl1 : Lim s1) (hv1 : V64 s1.shown ino) (b0 : 0 ≤ q) (b1 : q ≤ 63) => get_calls hW hK ino q hr1 hl1 h0 h1 b0 (by omega) (hv1 q b0 (by omega)))
 have HPT := hQ_ (fun (q : Int) (w1 : World) (s1 : Vs) (S1 D1 : Nat → Prop) (g : Nat) (ys : List Int) (hr1 : Rep w1 v s1 S1 D1) (hl1 : Lim s1) (b0 : 0 ≤ q) (b1 : q ≤ 63) (hx : Bs w1 (some ⟨g,0,none⟩) 64 ys) => put_calls (c := 64) hW hT ino q hr1 hl1 h0 h1 b0 (by omega) hx (Nat.le_refl _) (by omega) (by omega))
 have HC := hQ_ (cut_ok a n w (by omega) (by omega) (by omega) (by omega))
 unfold CutE at HC
 have HS := hQ_ hW.stays
 have A0 := hQ_ (At.start hr)
 have HPO : Hid (∀ p ∈ cutL a n,PcOk p) := hQ_ cutL_ok
 have HI0 : Hid (WrI s s ino xs xs (cutL a n) ((cutL a n).drop 0) []) := hQ_ ⟨Aft.nil (Sm.refl s) (Nat.le_refl _) (Nat.le_refl _),rfl,rfl,hv,by rw [List.drop_zero,sum_cut a0 an,hx.1]; omega⟩
 have HLI := hQ_ hl
 have HX := hQ_ hx
 have HA := hQ_ hA
 have HPL := hQ_ (cutL_len a n)
 generalize cutL a n = P at *
 clear hr hl hW hK hT hv h0 h1 a0 an hx hA
 go_enter Tryz.func87,Tryz.ntmps87
 go_wp2_with fail
 refine HC.out.mono ?_
 rintro e w1 ⟨PA,pn,pc,rfl,hso,hb1⟩
 have HP := hQ_ hso
 clear hso
 have HPA : Hid (∀ b o,PA = some ⟨b,o,none⟩ → w.heap.size ≤ b ∧ b < w1.heap.size) := hQ_ (fun b o e => HP.out.lt (by rw [e]; rfl))
 have A2 := hQ_ (A0.out.owns HS.out hb1 (Q := fun b => ∃ o,PA = some ⟨b,o,none⟩) (fun b ⟨o,e⟩ => HPA.out b o e))
 have HX1 := hQ_ (HX.out.below hb1)
 clear hb1
 go_wp2_with fail
 go_loopw [3,20] (fun u i wr => ∃ (k m d : Nat) (B : Option Addr) (ys : List Int) (s1 : Vs) (S' D' : Nat → Prop) (don : List Wrt),i = .int .i64 k ∧ k ≤ pn ∧ u = .slice B m d ∧ m ≤ d ∧ d ≤ 9223372036854775807 ∧ Hid (Bs wr B m ys) ∧ Hid (∀ b o,B = some ⟨b,o,none⟩ → ∃ o',A = some ⟨b,o',none⟩) ∧ Hid (At Rep w S D (fun b => ∃ o,PA = some ⟨b,o,none⟩) wr v s1 S' D') ∧ Hid (So trE 194 wr w.heap.size (.slice PA pn pc) pn P) ∧ Hid (WrI s s1 ino ys xs P (P.drop k) don)) (fun _ i _ => pn - (intOf i).toNat)
 case atStart => exact ⟨0,n,c,A,xs,s,S,D,[],rfl,Nat.zero_le _,rfl,hc,hbig,HX1,hQ_ (fun b o e => ⟨o,e⟩),hQ_ (A2.out.less (fun b h => .inr h)),HP,HI0⟩
 case round =>
  obtain ⟨k,m,d,B,ys,s1,S',D',don,rfl,hk,rfl,hmd,hdb,HY,HBA,HAT,HL,HI⟩ := hrel
  by_cases hlt : k < pn
  ·obtain ⟨p,g,o,hp,rfl,hg,hcl⟩ := HL.out.sl.get k hlt
   have hok := HPO.out p (List.mem_of_getElem? hp)
   have HPK := hQ_ hp
   have hsd := sum_drop hp
   have hln := HI.out.len
   have hym := HY.out.1
   obtain ⟨p1,p2,p3⟩ := p
   obtain ⟨o1,o2,o3,o4,o5⟩ := hok
   dsimp only at o1 o2 o3 o4 o5 hsd
   obtain ⟨f,rfl⟩ : ∃ f : Nat,p2 = (f : Int) := ⟨p2.toNat,by omega⟩
   obtain ⟨q,rfl⟩ : ∃ q : Nat,p3 = (q : Int) := ⟨p3.toNat,by omega⟩
   have hqm : q ≤ m := by rw [← hym,hln,hsd]; omega
   obtain ⟨c1,c2,c3⟩ := tr_cells hcl
   dsimp only at c1 c2 c3
   go_wp2_with ((with_reducible refine pick (some 23) ?_); refine wpList_load_mid rfl 194 _ rfl g (o + k * 3) rfl [.int .i64 p1,.int .i64 (f : Int),.int .i64 (q : Int)] _ hcl Tryz.underlying194 rfl info3 ?_)
   have Z := Blk.new_ wr #[.int .i64 p1,.int .i64 (f : Int),.int .i64 (q : Int)] 194
   have z1 : _ = some (Value.int .i64 p1) := Z.cell 0
   have z2 : _ = some (Value.int .i64 (f : Int)) := Z.cell 1
   have z3 : _ = some (Value.int .i64 (q : Int)) := Z.cell 2
   have hb2 : Below wr.heap.size wr (wr.alloc (.cells #[.int .i64 p1,.int .i64 (f : Int),.int .i64 (q : Int)] 194)).drew := (bW_).drew
   have A3 := hQ_ (HAT.out.below HS.out hb2)
   have Y3 := hQ_ (HY.out.below hb2)
   have L3 := hQ_ (HL.out.below hb2)
   have G3 := hQ_ (HG.out p1 _ _ _ _ A3.out.rep (HI.out.lim HLI.out) HI.out.v64 o1 o2)
   clear hcl c1 c2 c3 hb2 hp hsd hln hym
   go_region
   clear z1 z2 z3 Z
   go_wp2_with fail
   refine G3.out.mono ?_
   rintro e w4 ⟨S4,D4,rfl,hr4,st4⟩
   obtain ⟨bb,bo,rfl,hbb,_⟩ := Y3.out.2.2 0 (by omega)
   have OF := hQ_ (off_of HAT.out HA.out HBA.out)
   have A4 := hQ_ (A3.out.step HS.out hr4 st4)
   have Y4 := hQ_ (bs_stp Y3.out st4.chg (fun b o e => (OF.out b o e).1))
   have L4 := hQ_ (so_chg L3.out st4.chg (fun b hb => by cases hb; exact A3.out.apart HS.out ⟨o,rfl⟩))
   clear hr4 st4 hbb
   unfold BlkV
   have hgl := getB_len s1.shown ino p1
   have hgb := getB_bd s1.shown ino p1
   have HPC : Hid (setB (getB s1.shown ino p1) (ys.take q) f = sp_ (getB s1.shown ino p1) (ys.take q) f) := hQ_ rfl
   have HSL : Hid ((sp_ (getB s1.shown ino p1) (ys.take q) f).length = 64) := hQ_ (by
    rw [← HPC.out,setB_len _ _ _ (by rw [List.length_take,hgl]; omega),hgl])
   have HSB : Hid (∀ x ∈ sp_ (getB s1.shown ino p1) (ys.take q) f,0 ≤ x ∧ x ≤ 255) := hQ_ (by rw [← HPC.out]; exact setb_bd hgb (fun x hx => Y4.out.2.1 x (List.mem_of_mem_take hx)))
   have HNX := hQ_ (fun (s2 : Vs) (b : List Int) (hb : setB (getB s1.shown ino p1) (ys.take q) f = b) (hlen : b.length ≤ 64) (ha : Aft s1 s2 [putP ino p1 b] 0 0) (hg : (goW s1 [putP ino p1 b]).2 = true) => HI.out.next (HS.out.ok A4.out.rep) HPK.out hb hlen ha hg)
   have HST := hQ_ (fun (s2 : Vs) (b : List Int) (hb : setB (getB s1.shown ino p1) (ys.take q) f = b) (ha : Aft s1 s2 [putP ino p1 b] 0 0) (hg : (goW s1 [putP ino p1 b]).2 = false) => HI.out.stop HPK.out hb ha hg)
   generalize getB s1.shown ino p1 = l at *
   have hbz := bN_ w4 (.cells Z64 195)
   have R5 : Hid (Blk (w4.alloc (.cells Z64 195)) w4.heap.size (u8A (List.replicate 64 0)) 195) := hQ_ (Blk.new_ w4 Z64 _)
   go_wp2_with ((with_reducible refine pick none ?_); refine store_blk rfl 195 _ _ rfl w4.heap.size (u8A l) rfl rfl 195 _ R5.out (by rw [u8A_size,hgl]; exact info64) (by rw [u8A_size,u8A_size,hgl,List.length_replicate]) (u8A_all _) ?_; intro w5 hk5 hg5)
   have HB5 : Below w4.heap.size w4 w5 := hbz.grown hg5 hbz.size (fun k hk => by injection hk with hk; omega)
   have hz5 : w4.heap.size < w5.heap.size := hk5.lt
   have A5 := hQ_ (A4.out.own HS.out HB5 (Nat.le_refl w4.heap.size) hz5)
   have Y5 := hQ_ (Y4.out.below HB5)
   have L5 := hQ_ (L4.out.below HB5)
   have K5 := hQ_ hk5
   have hz4 := A4.out.size
   clear hgb
   have K5d := hQ_ K5.out.drew
   have Y5d := hQ_ (Y5.out.below ((Below.refl _ _).drew))
   have A5d := hQ_ (A5.out.below HS.out ((Below.refl _ _).drew))
   have L5d := hQ_ (L5.out.below ((Below.refl _ _).drew))
   refine wp_region_still_tail 5 (by kernel_rfl) (by kernel_rfl) ?_
   change wpStill _ _ w5.drew (fun a' => wpList _ _ _ _ a' w5.drew) _ _
   obtain ⟨wd,hwd⟩ : ∃ wd,w5.drew = wd := ⟨_,rfl⟩
   rw [hwd] at K5d Y5d A5d L5d ⊢
   simp only [List.take_succ_cons,List.take_zero,List.drop_succ_cons,List.drop_zero]
   refine sr_move _ rfl (by kernel_rfl) (.int .i64 (f : Int)) rfl ?_; simp only [pZ_]
   refine sr_slice _ _ _ _ _ rfl (by kernel_rfl) _ (slice64l wd w4.heap.size f (by omega)) ?_; simp only [pZ_]
   refine sr_move _ rfl (by kernel_rfl) (.slice (some ⟨bb,bo,none⟩) m d) rfl ?_; simp only [pZ_]
   refine sr_move _ rfl (by kernel_rfl) (.int .i64 (q : Int)) rfl ?_; simp only [pZ_]
   refine sr_slice _ _ _ _ _ rfl (by kernel_rfl) _ (slice_bh wd _ m d q (by omega)) ?_; simp only [pZ_]
   refine wpStill_nil ?_
   have hzd : w4.heap.size < wd.heap.size := K5d.out.lt
   have HSRC : ∀ (j : Nat) (x : Int),(ys.take q)[j]? = some x → wd.cell? ((⟨bb,bo,none⟩ : Addr).add j) = some (.int .u8 x) := fun j x hx => by
    have hj : j < q := by
     have := (List.getElem?_eq_some_iff.1 hx).1
     rw [List.length_take] at this
     omega
    have h1 := Y5d.out.at_ j (by omega)
    rw [List.getElem?_take,if_pos hj] at hx
    rw [List.getD_eq_getElem?_getD,hx] at h1
    unfold Addr.add
    by_cases h0 : j = 0
    ·subst h0; simpa using h1
    ·simpa [h0] using h1
   have hyl := Y5d.out.1
   refine wpList_copy_row rfl _ _ 77 77 rfl 5 Tryz.underlying77 (by kernel_rfl) w4.heap.size f (64 - f) (64 - f) ⟨bb,bo,none⟩ q d rfl rfl l 195 K5d.out (ys.take q) (by rw [List.length_take]; show _ = min q (64 - f); omega) HSRC (by rw [List.length_take]; omega) ?_
   intro w6 hk6 hg6
   simp only [pZ_]
   clear HSRC
   have A6 := hQ_ (A5d.out.stored HS.out K5d.out (.inr rfl) (by decide) hg6)
   have Y6 := hQ_ (bs_grown Y5d.out hg6 (fun b o e => by have := (OF.out b o e).2; omega))
   have L6 := hQ_ (L5d.out.grown hg6 (so_off L4.out (Nat.le_refl _)))
   have X6 : Hid (Bs w6 (some ⟨w4.heap.size,0,none⟩) 64 (sp_ l (ys.take q) f)) := hQ_ (by
    have := blk_bs hk6 HSB.out
    rw [HSL.out] at this
    exact this)
   clear hk6 hg6 hyl
   go_wp2_with ((with_reducible refine pick (some 43) ?_); refine wpList_slice rfl _ _ _ _ _ rfl _ (slice64a w6 w4.heap.size) ?_)
   refine (HPT.out p1 _ s1 _ _ _ _ A6.out.rep (HI.out.lim HLI.out) o1 o2 X6.out).mono ?_
   intro e w7 h7
   rcases Wrote.split h7 with ⟨s7,S7,D7,rfl,hg7,hr7,st7,af7⟩ | ⟨s7,S7,D7,rfl,hg7,hr7,st7,af7⟩
   ·have A7 := hQ_ ((A6.out.step HS.out hr7 st7).less (M' := fun b => ∃ o',(some ⟨g,o,none⟩ : Option Addr) = some ⟨b,o',none⟩) (fun b hb => .inl hb))
    have OF4 := off_of A6.out HA.out HBA.out
    have y7 := bs_stp Y6.out st7.chg (fun b o e => (OF4 b o e).1)
    have L7 := hQ_ (so_chg L6.out st7.chg (fun b hb => by cases hb; exact A6.out.apart HS.out (.inl ⟨o,rfl⟩)))
    obtain ⟨don2,i7⟩ := HNX.out s7 _ HPC.out (by rw [HSL.out]; exact Nat.le_refl _) af7 hg7
    have I7 := hQ_ i7
    obtain ⟨B2,hs48,hB2⟩ := slice_bl w7 bb bo m d q (by omega) (by omega)
    have Y8 : Hid (Bs w7 B2 (m - q) (ys.drop q)) := hQ_ (by
     rcases hB2 with rfl | ⟨hmq,rfl⟩
     ·exact bs_back y7 q hqm
     ·have e1 : ys.drop q = [] := List.drop_eq_nil_of_le (by rw [y7.1]; omega)
      rw [e1,show m - q = 0 by omega]
      exact Bs.nil_ _ _)
    have BA2 : Hid (∀ b o,B2 = some ⟨b,o,none⟩ → ∃ o',A = some ⟨b,o',none⟩) := hQ_ (fun b o e => by
     rcases hB2 with rfl | ⟨_,rfl⟩
     ·injection e with e
      injection e with e _
      subst e
      exact HBA.out _ _ rfl
     ·exact HBA.out _ _ e)
    clear h7 hr7 st7 af7 hg7 OF4 y7 i7 hB2
    have hpn : pn ≤ 4096 := by rw [← HP.out.1]; exact HPL.out
    go_wp2_with ((with_reducible refine pick (some 48) ?_); refine wpList_slice rfl _ _ _ _ _ rfl _ hs48 ?_)
    go_roundw
    case rel => exact ⟨k + 1,m - q,d - q,B2,ys.drop q,s7,S7,D7,don2,by go_num,by omega,rfl,by omega,by omega,Y8,BA2,A7,L7,I7⟩
    case measure => simp [intOf]; omega
   ·have A7 := hQ_ (A6.out.step HS.out hr7 st7)
    have C7 := hQ_ (HST.out s7 _ HPC.out af7 hg7)
    clear h7 hr7 st7 af7 hg7
    go_wp2_with fail
    go_ret
    exact ⟨s7,S7,D7,by rw [C7.out.2]; rfl,A7.out.rep,A7.out.st,C7.out.1⟩
  ·obtain rfl : k = pn := by omega
   have C9 := hQ_ (HI.out.done (by rw [HP.out.1]; exact Nat.le_refl _))
   go_wp2_with fail
   go_ret
   exact ⟨s1,S',D',by rw [C9.out.2]; rfl,HAT.out.rep,HAT.out.st,C9.out.1⟩
end Go.Proofs.YtfalhnomhidkcaaGreatDoor.FileKe
namespace Go.Proofs.YtfalhnomhidkcaaGreatDoor.FileKf
open Go.RowKit
open Byte PackM KeysM KeysS KeysV KeysB KeysD TreeR ViewM ViewR NodeM WalkM WalkF WalkKm DirsV FileM FileV Lst Chg TreeL ViewL WalkL WalkV Vat WalkKb DirsK DirsKa
open TreeM hiding cutL
open Own hiding keeps
variable {Rep : RepT}
def CpN (Rep : RepT) : Prop := ∀ ⦃w v s S D⦄,Rep w v s S D → Lim s → Calls Tryz.prog 19 #[v] w fun e w' => ∃ v' S' D',e = .returned v' ∧ Rep w' v' s S' D' ∧ (∀ b,D' b → w.heap.size ≤ b) ∧ Below w.heap.size w w'
theorem del_next {M : List Pr} {k : Nat} {x : Pr} (h : M[k]? = some x) : (M.take (k + 1)).map (fun p => delP p.key) = (M.take k).map (fun p => delP p.key) ++ [delP x.key] := by
 rw [List.take_add_one,h,Option.toList_some,List.map_append]; rfl
theorem drop_calls (hW : Wk Rep) (hCp : CpN Rep) {w : World} {v : Value} {s : Vs} {S D : Nat → Prop} (ino z : Int) (hr : Rep w v s S D) (hl : Lim s) (h0 : 0 ≤ ino) (h1 : ino ≤ 4294967295) (z0 : 0 ≤ z) (z1 : z ≤ 65535) (hk : ∀ p ∈ s.shown,(sp p.key).letter ≠ 0) :
 Calls Tryz.prog 88 #[v,.int .u32 ino,.int .i64 z] w (Wrote Rep v s (drpPs s.shown ino z) 0 0 S D w) := by
 have A0 := hQ_ (At.start hr)
 have HE := hQ_ (fun w => blocks_small ino z w h0 h1 (by omega) (by omega))
 have HK := hQ_ hk
 have HS := hQ_ hW.stays
 have HL := hQ_ hl
 have HX := hQ_ hW.range
 have HWK := hQ_ hW
 have HCP := hQ_ (hCp hr hl)
 have hn := hW.shown hr hl
 obtain ⟨M,hM⟩ : ∃ M,s.shown.filter (blkF ino z) = M := ⟨_,rfl⟩
 have HMF := hQ_ hM
 have HM2 : Hid (∀ p ∈ M,p.key.size ≤ 100000 ∧ (sp p.key).letter = 68) := hQ_ (fun p hp => by
  rw [← hM] at hp
  have h3 := List.mem_filter.1 hp
  have h4 := sp_key (HK.out p h3.1)
  have h5 := h3.2
  unfold blkF at h5
  simp only [Bool.and_eq_true,decide_eq_true_eq] at h5
  exact ⟨by omega,h5.1.1⟩)
 have HDR : Hid (drpPs s.shown ino z = M.map fun p => delP p.key) := hQ_ (by unfold drpPs; rw [hM])
 rw [HDR.out]
 clear hr hl hk hM hW hCp HDR
 go_enter Tryz.func88,Tryz.ntmps88
 go_wp2_with fail
 refine HCP.out.mono ?_
 rintro e w1 ⟨v',Sc,Dc,rfl,hrc,hnew,hb1⟩
 have A1 := hQ_ ((A0.out.owns HS.out hb1 (Q := Dc) (fun b hb => ⟨hnew b hb,HS.out.lt hrc b hb⟩)).less (M' := Dc) (fun b hb => .inr hb))
 have RC := hQ_ hrc
 clear hrc hnew hb1
 go_wp2_with fail
 refine (HE.out _).mono ?_
 rintro e w2 ⟨a,b,rfl,hrg,ha,hb,hb2⟩
 have A2 := hQ_ (A1.out.below HS.out hb2)
 have RC2 := hQ_ (HS.out.below RC.out hb2)
 have HRG : Hid (rangeL a b s.shown = s.shown.filter (blkF ino z)) := hQ_ (range_ent hrg.out HK.out)
 clear hb2 hrg
 go_wp2_with fail
 refine (HX.out a b RC2.out HL.out (by omega) (by omega)).mono ?_
 rintro e w3 ⟨⟨ra,rn,rc⟩,S3,D3,rfl,hsl,hnew,hr3,st3⟩
 rw [rangeOf_is,HRG.out,HMF.out] at hsl
 dsimp only at hsl hnew
 have A3 : Hid (At Rep w S D (fun b => 0 < rn ∧ ∃ o,ra = some ⟨b,o,none⟩) w3 v s S D) := hQ_ (by
  have q := A2.out.chg HS.out st3.chg st3.kept (fun b hb _ => HS.out.sub RC2.out b hb)
  refine ⟨q.rep,q.st,fun b ⟨hpos,o,e⟩ => ?_⟩
  have h5 := hnew hpos b o e
  obtain ⟨x,b',o',hx,he,hlt,_⟩ := hsl.get 0 hpos
  rw [e] at he
  injection he with he
  injection he with he _
  subst he
  exact ⟨Nat.le_trans A2.out.size h5,hlt,fun hd => by have := HS.out.lt A2.out.rep b hd; omega⟩)
 have HLR := hQ_ hsl
 have hrn : rn ≤ 100000 := by
  rw [← hsl.1,← HMF.out]
  exact Nat.le_trans (List.length_filter_le _ _) hn
 clear hsl hnew hr3 st3 ha hb
 go_wp2_with fail
 go_loopw [22] (fun i wr => ∃ (k : Nat) (s1 : Vs) (S' D' : Nat → Prop),i = .int .i64 k ∧ k ≤ rn ∧ Hid (At Rep w S D (fun b => 0 < rn ∧ ∃ o,ra = some ⟨b,o,none⟩) wr v s1 S' D') ∧ Hid (Sl prE wr ra rn M) ∧ Hid (Aft s s1 ((M.take k).map fun p => delP p.key) 0 0 ∧ (goW s ((M.take k).map fun p => delP p.key)).2 = true)) (fun i _ => rn - (intOf i).toNat)
 case atStart => exact ⟨0,s,S,D,rfl,Nat.zero_le _,A3,HLR,hQ_ ⟨Aft.nil (Sm.refl s) (Nat.le_refl _) (Nat.le_refl _),rfl⟩⟩
 case round =>
  obtain ⟨k,s1,S',D',rfl,hk,HA,HL1,HC⟩ := hrel
  by_cases hlt : k < rn
  ·obtain ⟨x,g,o,hx,rfl,hg,hcl⟩ := HL1.out.get k hlt
   obtain ⟨c1,c2,c3,hcc⟩ := pair_cells hcl
   have hmx := HM2.out x (List.mem_of_getElem? hx)
   have HNX := hQ_ (del_next hx)
   have HSP := hQ_ (fun w => split_calls x.key w hmx.1)
   unfold SpE at HSP
   have HCT := hQ_ (fun (w1 : World) (S1 D1 : Nat → Prop) (hr1 : Rep w1 v s1 S1 D1) => cut_w HWK.out x.key hr1 (lim_aft HC.out.1 HL.out (by have := HL.out.rd; omega) (by have := HL.out.rg; omega)) hmx.1)
   have HRS : Hid ((M.take (k + 1)).map (fun p => delP p.key) ++ (M.drop (k + 1)).map (fun p => delP p.key) = M.map fun p => delP p.key) := hQ_ (by rw [← List.map_append,List.take_append_drop])
   have hlet := hmx.2
   obtain ⟨xk,xv,xg⟩ := x
   dsimp only at *
   rw [hlet] at HSP
   clear hcl hx hmx hlet
   generalize (sp xk).ino = X2 at *
   generalize (sp xk).name = X3 at *
   generalize (sp xk).n = X4 at *
   have R4 := hQ_ (Blk.new_ wr #[.string xk,.string xv,.bool xg] 46)
   have hbp := bX_ R4.out
   have A4 := hQ_ ((HA.out.own HS.out hbp (Nat.le_refl wr.heap.size) (by simp)))
   have L4 := hQ_ (HL1.out.below hbp)
   clear hbp
   go_wp2_with ((with_reducible refine pick (some 25) ?_); refine wpList_load_mid rfl 46 _ rfl g (o + k * 3) rfl _ _ hcc Tryz.underlying46 rfl info_pair3 ?_)
   refine (HSP.out _).mono ?_
   rintro e w5 ⟨rfl,hb5⟩
   have A5 := hQ_ (A4.out.below HS.out hb5)
   have L5 := hQ_ (L4.out.below hb5)
   have R5 := hQ_ (R4.out.below hb5)
   have p0 := cZ0 R5.out
   clear hb5 c1 c2 c3 hcc
   go_wp2_with fail
   refine (HCT.out _ _ _ A5.out.rep).mono ?_
   intro e w6 h6
   rcases Wrote.split h6 with ⟨s6,S6,D6,rfl,hg6,hr6,st6,af6⟩ | ⟨s6,S6,D6,rfl,hg6,hr6,st6,af6⟩
   ·have A6 := hQ_ ((A5.out.step HS.out hr6 st6).less (M' := fun b' => 0 < rn ∧ ∃ o',(some ⟨g,o,none⟩ : Option Addr) = some ⟨b',o',none⟩) (fun b hb => .inl hb))
    have L6 := hQ_ (A5.out.sl HS.out L5.out (fun b' o' e => .inl ⟨by omega,o',e⟩) st6)
    have C6 : Hid (Aft s s6 ((M.take (k + 1)).map fun p => delP p.key) 0 0 ∧ (goW s ((M.take (k + 1)).map fun p => delP p.key)).2 = true) := hQ_ (by
     have q := HC.out.1.app HC.out.2 af6
     rw [HNX.out]
     exact ⟨q.1,q.2.trans hg6⟩)
    clear h6 hr6 st6 af6 hg6
    go_wp2_with fail
    go_roundw
    case rel => exact ⟨k + 1,s6,S6,D6,by go_num,by omega,A6,L6,C6⟩
    case measure => simp [intOf]; omega
   ·have A6 := hQ_ (A5.out.step HS.out hr6 st6)
    have C6 : Hid (Aft s s6 (M.map fun p => delP p.key) 0 0 ∧ (goW s (M.map fun p => delP p.key)).2 = false) := hQ_ (by
     have q := HC.out.1.app HC.out.2 af6
     rw [← HRS.out,HNX.out]
     exact q.1.stop (q.2.trans hg6))
    clear h6 hr6 st6 af6 hg6
    go_wp2_with fail
    go_ret
    exact ⟨s6,S6,D6,by rw [C6.out.2]; rfl,A6.out.rep,A6.out.st,C6.out.1⟩
  ·obtain rfl : k = rn := by omega
   have hM : M.take k = M := List.take_of_length_le (by rw [HLR.out.1]; exact Nat.le_refl _)
   have hC := HC.out
   rw [hM] at hC
   have C9 := hQ_ hC
   clear hC
   go_wp2_with fail
   go_ret
   exact ⟨s1,S',D',by rw [C9.out.2]; rfl,HA.out.rep,HA.out.st,C9.out.1⟩
end Go.Proofs.YtfalhnomhidkcaaGreatDoor.FileKf
namespace Go.Proofs.YtfalhnomhidkcaaGreatDoor.FileKg
open Go.RowKit
open Byte PackM KeysM TreeR ViewM NodeM WalkM WalkF WalkKm DirsV FileM FileV Lst Chg TreeL ViewL WalkL WalkV Vat DirsK DirsKa FileK FileKd FileKe
open TreeM hiding cutL
open Own hiding keeps
variable {Rep : RepT}
theorem fil_bd (L : List Pr) (ino : Int) : InoB (filV L ino).1.k (filV L ino).1.l (filV L ino).1.s (filV L ino).1.p := by
 unfold filV
 split
 ·have h := load_k L ino
  exact ⟨h.1,h.2.1,h.2.2.1,h.2.2.2.1,h.2.2.2.2.1,h.2.2.2.2.2.1,h.2.2.2.2.2.2.1,h.2.2.2.2.2.2.2⟩
 ·exact ⟨by decide,by decide,by decide,by decide,by decide,by decide,by decide,by decide⟩
theorem fil_er (L : List Pr) (ino : Int) : (filV L ino).2 = 0 ∨ (filV L ino).2 = 16 := by
 unfold filV
 split
 ·exact .inl rfl
 ·exact .inr rfl
def ReadE (Rep : RepT) (v : Value) (s' : Vs) (r : List Int × Int) (S D : Nat → Prop) (w : World) (e : Ending) (w' : World) : Prop := ∃ u m S' D',e = .returned (.tuple #[u,.int .i64 r.2]) ∧ So u8E 5 w' w.heap.size u m r.1 ∧ Rep w' v s' S' D' ∧ Stp S D S' D' w w' ∧ ∀ b,u.ownBlock = some b → ¬ D' b
theorem Read_calls (hW : Wk Rep) (hK : LookOk Rep) {w : World} {v : Value} {s : Vs} {S D : Nat → Prop} (ino a n : Int) (hr : Rep w v s S D) (hl : Lim s) (h2 : s.rd.length ≤ 19990) (h0 : 0 ≤ ino) (h1 : ino ≤ 4294967295) (a0 : -9223372036854775808 ≤ a) (a1 : a ≤ 9223372036854775807) (n0 : -9223372036854775808 ≤ n) (n1 : n ≤ 9223372036854775807) (hv : V64 s.shown ino) :
 Calls Tryz.prog 41 #[v,.int .u32 ino,.int .i64 a,.int .i64 n] w (ReadE Rep v (s.read (kI ino)) (reaV s.shown ino a n) S D w) := by
 have A0 := hQ_ (At.start hr)
 have HLD := hQ_ (FileK.load_calls hW ino hr hl h0 h1)
 unfold FilV at HLD
 have HS := hQ_ hW.stays
 have hl2 : Lim (s.read (kI ino)) := ⟨hl.base,by have := read_len s (kI ino); omega,hl.rg⟩
 have hsh : (s.read (kI ino)).shown = s.shown := ((Sm.refl s).read _).shown
 have HRD := hQ_ (fun (m : Int) (w1 : World) (S1 D1 : Nat → Prop) (hr1 : Rep w1 v (s.read (kI ino)) S1 D1) (b0 : 0 ≤ a) (m0 : -9223372036854775808 ≤ m) (m1 : m ≤ 9223372036854775807) => read_calls hW hK ino a m hr1 hl2 h0 h1 b0 a1 m0 m1 (by rw [hsh]; exact fun q q0 q1 => hv q q0 (by omega)))
 rw [hsh] at HRD
 have hbd := fil_bd s.shown ino
 unfold reaV
 obtain ⟨q,hfx⟩ : ∃ q,filV s.shown ino = q := ⟨_,rfl⟩
 rw [hfx] at hbd HLD ⊢
 obtain ⟨⟨xk,xl,xz,xp⟩,xe⟩ := q
 dsimp only at hbd HLD ⊢
 obtain ⟨b0,b1,b2,b3,b4,b5,b6,b7⟩ := hbd
 generalize s.read (kI ino) = s1 at *
 clear hr hl hv hW hK hl2 hsh hfx
 by_cases he : xe = 0
 ·subst he
  rw [if_neg (by decide)]
  by_cases hc : a < 0 ∨ n < 0 ∨ 1024 < n
  ·rw [if_pos hc]
   by_cases c1 : a < 0
   ·have d1 : decide (a < 0) = true := by simpa using c1
    clear hc
    go_enter Tryz.func41,Tryz.ntmps41
    go_wp2_with fail
    refine HLD.out.mono ?_
    rintro e w1 ⟨S1,D1,rfl,hr1,st1⟩
    have hbn := bN_ w1 (.cells #[.int .u8 xk,.int .u32 xl,.int .u32 xz,.int .u32 xp] 59)
    have A1 := hQ_ ((A0.out.step HS.out hr1 st1).below HS.out hbn)
    clear hr1 st1 hbn
    go_wp2_with fail
    go_ret2
    exact ⟨_,0,S1,D1,rfl,So.nil_ _ _ _ _,A1.out.rep,A1.out.st,fun _ h => by cases h⟩
   ·have d1 : decide (a < 0) = false := by simpa using c1
    by_cases c2 : n < 0
    ·have d2 : decide (n < 0) = true := by simpa using c2
     clear hc
     go_enter Tryz.func41,Tryz.ntmps41
     go_wp2_with fail
     refine HLD.out.mono ?_
     rintro e w1 ⟨S1,D1,rfl,hr1,st1⟩
     have hbn := bN_ w1 (.cells #[.int .u8 xk,.int .u32 xl,.int .u32 xz,.int .u32 xp] 59)
     have A1 := hQ_ ((A0.out.step HS.out hr1 st1).below HS.out hbn)
     clear hr1 st1 hbn
     go_wp2_with fail
     go_ret2
     exact ⟨_,0,S1,D1,rfl,So.nil_ _ _ _ _,A1.out.rep,A1.out.st,fun _ h => by cases h⟩
    ·have d2 : decide (n < 0) = false := by simpa using c2
     have c3 : 1024 < n := by omega
     have d3 : decide (n > 1024) = true := by simpa using c3
     clear hc
     go_enter Tryz.func41,Tryz.ntmps41
     go_wp2_with fail
     refine HLD.out.mono ?_
     rintro e w1 ⟨S1,D1,rfl,hr1,st1⟩
     have hbn := bN_ w1 (.cells #[.int .u8 xk,.int .u32 xl,.int .u32 xz,.int .u32 xp] 59)
     have A1 := hQ_ ((A0.out.step HS.out hr1 st1).below HS.out hbn)
     clear hr1 st1 hbn
     go_wp2_with fail
     go_ret2
     exact ⟨_,0,S1,D1,rfl,So.nil_ _ _ _ _,A1.out.rep,A1.out.st,fun _ h => by cases h⟩
  ·rw [if_neg hc]
   have d1 : decide (a < 0) = false := by simp; omega
   have d2 : decide (n < 0) = false := by simp; omega
   have d3 : decide (n > 1024) = false := by simp; omega
   have e1 : wrap64 (xz - a) = xz - a := by unfold wrap64; omega
   have e2 : wrap64 xz = xz := by unfold wrap64; omega
   have HRM := hQ_ (fun (w1 : World) (S1 D1 : Nat → Prop) (hr1 : Rep w1 v s1 S1 D1) => HRD.out (min n (xz - a)) w1 S1 D1 hr1 (by omega) (by omega) (by omega))
   have a2 : 0 ≤ a := by omega
   clear hc HRD
   go_enter Tryz.func41,Tryz.ntmps41
   go_wp2_with fail
   refine HLD.out.mono ?_
   rintro e w1 ⟨S1,D1,rfl,hr1,st1⟩
   have hbn := bN_ w1 (.cells #[.int .u8 xk,.int .u32 xl,.int .u32 xz,.int .u32 xp] 59)
   have A1 := hQ_ ((A0.out.step HS.out hr1 st1).below HS.out hbn)
   have f2 : (w1.alloc (.cells #[.int .u8 xk,.int .u32 xl,.int .u32 xz,.int .u32 xp] 59)).cell? ⟨w1.heap.size,2,none⟩ = some (.int .u32 xz) := (Blk.new_ w1 #[.int .u8 xk,.int .u32 xl,.int .u32 xz,.int .u32 xp] 59).cell 2
   clear hr1 st1 hbn
   go_wp2_with fail
   refine (HRM.out _ _ _ A1.out.rep).mono ?_
   rintro e w2 ⟨u,m,S2,D2,rfl,hso,hr2,st2,hn2⟩
   have A2 := hQ_ (A1.out.step HS.out hr2 st2)
   have O2 := hQ_ (hso.lower A1.out.size)
   have N2 := hQ_ hn2
   clear hso hr2 st2 f2 hn2
   go_wp2_with fail
   go_ret2
   exact ⟨u,m,S2,D2,rfl,O2.out,A2.out.rep,A2.out.st,N2.out⟩
 ·rw [if_pos he]
  have d1 : (xe != 0) = true := by simpa using he
  clear he
  go_enter Tryz.func41,Tryz.ntmps41
  go_wp2_with fail
  refine HLD.out.mono ?_
  rintro e w1 ⟨S1,D1,rfl,hr1,st1⟩
  have hbn := bN_ w1 (.cells #[.int .u8 xk,.int .u32 xl,.int .u32 xz,.int .u32 xp] 59)
  have A1 := hQ_ ((A0.out.step HS.out hr1 st1).below HS.out hbn)
  clear hr1 st1 hbn
  go_wp2_with fail
  go_ret2
  exact ⟨_,0,S1,D1,rfl,So.nil_ _ _ _ _,A1.out.rep,A1.out.st,fun _ h => by cases h⟩
theorem All_calls (hW : Wk Rep) (hK : LookOk Rep) {w : World} {v : Value} {s : Vs} {S D : Nat → Prop} (ino : Int) (hr : Rep w v s S D) (hl : Lim s) (h2 : s.rd.length ≤ 19990) (h0 : 0 ≤ ino) (h1 : ino ≤ 4294967295) (hv : V64 s.shown ino) :
 Calls Tryz.prog 38 #[v,.int .u32 ino] w (ReadE Rep v (s.read (kI ino)) (allV s.shown ino) S D w) := by
 have A0 := hQ_ (At.start hr)
 have HLD := hQ_ (FileK.load_calls hW ino hr hl h0 h1)
 unfold FilV at HLD
 have HS := hQ_ hW.stays
 have hl2 : Lim (s.read (kI ino)) := ⟨hl.base,by have := read_len s (kI ino); omega,hl.rg⟩
 have hsh : (s.read (kI ino)).shown = s.shown := ((Sm.refl s).read _).shown
 have HRD := hQ_ (fun (m : Int) (w1 : World) (S1 D1 : Nat → Prop) (hr1 : Rep w1 v (s.read (kI ino)) S1 D1) (m0 : -9223372036854775808 ≤ m) (m1 : m ≤ 9223372036854775807) => read_calls hW hK ino 0 m hr1 hl2 h0 h1 (by omega) (by omega) m0 m1 (by rw [hsh]; exact fun q q0 q1 => hv q q0 (by omega)))
 rw [hsh] at HRD
 have hbd := fil_bd s.shown ino
 unfold allV
 obtain ⟨q,hfx⟩ : ∃ q,filV s.shown ino = q := ⟨_,rfl⟩
 rw [hfx] at hbd HLD ⊢
 obtain ⟨⟨xk,xl,xz,xp⟩,xe⟩ := q
 dsimp only at hbd HLD ⊢
 obtain ⟨b0,b1,b2,b3,b4,b5,b6,b7⟩ := hbd
 generalize s.read (kI ino) = s1 at *
 clear hr hl hv hW hK hl2 hsh hfx
 by_cases he : xe = 0
 ·subst he
  rw [if_neg (by decide)]
  have e2 : wrap64 xz = xz := by unfold wrap64; omega
  have HRM := hQ_ (fun (w1 : World) (S1 D1 : Nat → Prop) (hr1 : Rep w1 v s1 S1 D1) => HRD.out xz w1 S1 D1 hr1 (by omega) (by omega))
  clear HRD
  go_enter Tryz.func38,Tryz.ntmps38
  go_wp2_with fail
  refine HLD.out.mono ?_
  rintro e w1 ⟨S1,D1,rfl,hr1,st1⟩
  have hbn := bN_ w1 (.cells #[.int .u8 xk,.int .u32 xl,.int .u32 xz,.int .u32 xp] 59)
  have A1 := hQ_ ((A0.out.step HS.out hr1 st1).below HS.out hbn)
  have f2 : (w1.alloc (.cells #[.int .u8 xk,.int .u32 xl,.int .u32 xz,.int .u32 xp] 59)).cell? ⟨w1.heap.size,2,none⟩ = some (.int .u32 xz) := (Blk.new_ w1 #[.int .u8 xk,.int .u32 xl,.int .u32 xz,.int .u32 xp] 59).cell 2
  clear hr1 st1 hbn
  go_wp2_with fail
  refine (HRM.out _ _ _ A1.out.rep).mono ?_
  rintro e w2 ⟨u,m,S2,D2,rfl,hso,hr2,st2,hn2⟩
  have A2 := hQ_ (A1.out.step HS.out hr2 st2)
  have O2 := hQ_ (hso.lower A1.out.size)
  have N2 := hQ_ hn2
  clear hso hr2 st2 f2 hn2
  go_wp2_with fail
  go_ret2
  exact ⟨u,m,S2,D2,rfl,O2.out,A2.out.rep,A2.out.st,N2.out⟩
 ·rw [if_pos he]
  have d1 : (xe != 0) = true := by simpa using he
  clear he
  go_enter Tryz.func38,Tryz.ntmps38
  go_wp2_with fail
  refine HLD.out.mono ?_
  rintro e w1 ⟨S1,D1,rfl,hr1,st1⟩
  have hbn := bN_ w1 (.cells #[.int .u8 xk,.int .u32 xl,.int .u32 xz,.int .u32 xp] 59)
  have A1 := hQ_ ((A0.out.step HS.out hr1 st1).below HS.out hbn)
  clear hr1 st1 hbn
  go_wp2_with fail
  go_ret2
  exact ⟨_,0,S1,D1,rfl,So.nil_ _ _ _ _,A1.out.rep,A1.out.st,fun _ h => by cases h⟩
end Go.Proofs.YtfalhnomhidkcaaGreatDoor.FileKg
namespace Go.Proofs.YtfalhnomhidkcaaGreatDoor.FileKh
open Go.RowKit
open Byte PackM KeysM TreeR ViewM NodeM NodeG WalkM WalkF WalkKm DirsV FileM FileV Lst Chg TreeL ViewL WalkL WalkV Vat WalkKa DirsK DirsKa FileK FileKd FileKe FileKg
open TreeM hiding cutL
open Own hiding keeps
variable {Rep : RepT}
theorem aft_load (s : Vs) (k : ByteArray) : Aft s (s.read k) [] 1 0 ∧ (goW s []).2 = true := ⟨Aft.nil ((Sm.refl s).read k) (read_len s k) (Nat.le_refl _),rfl⟩
theorem ans_err {v : Value} {s : Vs} {k : ByteArray} {er : Int} {S D M S' D' : Nat → Prop} {w w' : World} (A : At Rep w S D M w' v (s.read k) S' D') : Ans Rep v s er [] 1 0 S D w (.returned (.int .i64 er)) w' := Ans.ok A (aft_load s k)
theorem Write_calls (hW : Wk Rep) (hK : LookOk Rep) (hT : SetOk Rep) {w : World} {v : Value} {s : Vs} {S D : Nat → Prop} (ino a : Int) {A : Option Addr} {n c : Nat} {xs : List Int} (hr : Rep w v s S D) (hl : Lim s) (h2 : s.rd.length ≤ 19990) (h0 : 0 ≤ ino) (h1 : ino ≤ 4294967295) (a0 : -9223372036854775808 ≤ a) (a1 : a ≤ 9223372036854775807) (hx : Bs w A n xs) (hc : n ≤ c) (hbig : c ≤ 9223372036854775807) (hA : 0 < n → ∀ b o,A = some ⟨b,o,none⟩ → ¬ S b ∧ b < w.heap.size) (hv : V64 s.shown ino) :
 Calls Tryz.prog 40 #[v,.int .u32 ino,.int .i64 a,.slice A n c] w (Ans Rep v s (wriV s.shown ino a xs).1 (wriV s.shown ino a xs).2 1 0 S D w) := by
 have A0 := hQ_ (At.start hr)
 have HLD := hQ_ (FileK.load_calls hW ino hr hl h0 h1)
 unfold FilV at HLD
 have HS := hQ_ hW.stays
 have hl2 : Lim (s.read (kI ino)) := ⟨hl.base,by have := read_len s (kI ino); omega,hl.rg⟩
 have hsh : (s.read (kI ino)).shown = s.shown := ((Sm.refl s).read _).shown
 have HWR := hQ_ (fun (w1 : World) (S1 D1 : Nat → Prop) (hr1 : Rep w1 v (s.read (kI ino)) S1 D1) (b0 : 0 ≤ a) (bn : a + n ≤ 4096) (hx1 : Bs w1 A n xs) (hA1 : ∀ b o,A = some ⟨b,o,none⟩ → ¬ S1 b ∧ b < w1.heap.size) => write_calls hW hK hT ino a hr1 hl2 h0 h1 b0 bn hx1 hc hbig hA1 (by rw [hsh]; exact hv))
 have HSV := hQ_ (fun (k l z p : Int) (w1 : World) (s5 : Vs) (S1 D1 : Nat → Prop) (hr1 : Rep w1 v s5 S1 D1) (hl5 : Lim s5) (hb : InoB k l z p) => save_w hW ino k l z p hr1 hl5 h0 h1 hb)
 have HRO := hQ_ FileK.room_calls
 have HL2 := hQ_ hl2
 have C1 := hQ_ (aft_load s (kI ino))
 have hbd := fil_bd s.shown ino
 unfold wriV
 rw [hx.1]
 obtain ⟨q,hfx⟩ : ∃ q,filV s.shown ino = q := ⟨_,rfl⟩
 rw [hfx] at hbd HLD ⊢
 obtain ⟨⟨xk,xl,xz,xp⟩,xe⟩ := q
 dsimp only at hbd HLD ⊢
 obtain ⟨b0,b1,b2,b3,b4,b5,b6,b7⟩ := hbd
 have HX := hQ_ hx
 have HA := hQ_ hA
 have HER : ∀ (er : Int) (M S' D' : Nat → Prop) (w' : World),At Rep w S D M w' v (s.read (kI ino)) S' D' → Ans Rep v s er [] 1 0 S D w (.returned (.int .i64 er)) w' := fun er M S' D' w' h => ans_err h
 have HERR := hQ_ HER
 clear HER
 generalize hs1 : s.read (kI ino) = s1 at *
 clear hr hl hv hW hK hT hl2 hsh hfx hx hA hs1
 by_cases he : xe = 0
 ·subst he
  rw [if_neg (by decide)]
  by_cases hc1 : a < 0 ∨ 1024 < n
  ·rw [if_pos hc1]
   by_cases c1 : a < 0
   ·have d1 : decide (a < 0) = true := by simpa using c1
    clear hc1
    go_enter Tryz.func40,Tryz.ntmps40
    go_wp2_with fail
    refine HLD.out.mono ?_
    rintro e w1 ⟨S1,D1,rfl,hr1,st1⟩
    have hbn := bN_ w1 (.cells #[.int .u8 xk,.int .u32 xl,.int .u32 xz,.int .u32 xp] 59)
    have A1 := hQ_ ((A0.out.step HS.out hr1 st1).below HS.out hbn)
    clear hr1 st1 hbn
    go_wp2_with fail
    go_ret
    exact HERR.out _ _ _ _ _ A1.out
   ·have d1 : decide (a < 0) = false := by simpa using c1
    have c3 : 1024 < (n : Int) := by omega
    have d3 : decide ((n : Int) > 1024) = true := by simpa using c3
    clear hc1
    go_enter Tryz.func40,Tryz.ntmps40
    go_wp2_with fail
    refine HLD.out.mono ?_
    rintro e w1 ⟨S1,D1,rfl,hr1,st1⟩
    have hbn := bN_ w1 (.cells #[.int .u8 xk,.int .u32 xl,.int .u32 xz,.int .u32 xp] 59)
    have A1 := hQ_ ((A0.out.step HS.out hr1 st1).below HS.out hbn)
    clear hr1 st1 hbn
    go_wp2_with fail
    go_ret
    exact HERR.out _ _ _ _ _ A1.out
  ·rw [if_neg hc1]
   have d1 : decide (a < 0) = false := by simp; omega
   have d3 : decide ((n : Int) > 1024) = false := by simp; omega
   have e1 : wrap64 (4096 - (n : Int)) = 4096 - (n : Int) := by unfold wrap64; omega
   by_cases c4 : 4096 - (n : Int) < a
   ·rw [if_pos c4]
    have d4 : decide (a > 4096 - (n : Int)) = true := by simpa using c4
    clear hc1
    go_enter Tryz.func40,Tryz.ntmps40
    go_wp2_with fail
    refine HLD.out.mono ?_
    rintro e w1 ⟨S1,D1,rfl,hr1,st1⟩
    have hbn := bN_ w1 (.cells #[.int .u8 xk,.int .u32 xl,.int .u32 xz,.int .u32 xp] 59)
    have A1 := hQ_ ((A0.out.step HS.out hr1 st1).below HS.out hbn)
    clear hr1 st1 hbn
    go_wp2_with fail
    go_ret
    exact HERR.out _ _ _ _ _ A1.out
   ·rw [if_neg c4]
    have d4 : decide (a > 4096 - (n : Int)) = false := by simp; omega
    by_cases c5 : n = 0
    ·rw [if_pos c5]
     have d5 : ((n : Int) == 0) = true := by rw [beq_iff_eq]; omega
     clear hc1
     go_enter Tryz.func40,Tryz.ntmps40
     go_wp2_with fail
     refine HLD.out.mono ?_
     rintro e w1 ⟨S1,D1,rfl,hr1,st1⟩
     have hbn := bN_ w1 (.cells #[.int .u8 xk,.int .u32 xl,.int .u32 xz,.int .u32 xp] 59)
     have A1 := hQ_ ((A0.out.step HS.out hr1 st1).below HS.out hbn)
     clear hr1 st1 hbn
     go_wp2_with fail
     go_ret
     exact HERR.out _ _ _ _ _ A1.out
    ·rw [if_neg c5]
     have d5 : ((n : Int) == 0) = false := by rw [beq_eq_false_iff_ne]; omega
     have e2 : wrap64 (a + (n : Int)) = a + (n : Int) := by unfold wrap64; omega
     have e3 : (a + (n : Int)) % 4294967296 = a + (n : Int) := by omega
     have hbm : InoB xk xl (max xz (a + (n : Int))) xp := ⟨b0,b1,b2,b3,by omega,by omega,b6,b7⟩
     have HBM := hQ_ hbm
     have e4 : NodeL.cutL a n = cutV a n := rfl
     rw [e4] at HWR
     have g0 : 0 ≤ a := by omega
     have g1 : a + (n : Int) ≤ 4096 := by omega
     have HA2 := hQ_ (HA.out (by omega))
     clear hc1 c4 c5 hbm e4
     go_enter Tryz.func40,Tryz.ntmps40
     go_wp2_with fail
     refine HLD.out.mono ?_
     rintro e w1 ⟨S1,D1,rfl,hr1,st1⟩
     have I2 := hQ_ (Blk.new_ w1 #[.int .u8 xk,.int .u32 xl,.int .u32 (max xz (a + (n : Int))),.int .u32 xp] 59)
     have hbn := bX_ I2.out
     have AQ := A0.out.step HS.out hr1 st1
     have A2 := hQ_ (AQ.own HS.out hbn (Nat.le_refl w1.heap.size) (by simp))
     have f2 : (w1.alloc (.cells #[.int .u8 xk,.int .u32 xl,.int .u32 xz,.int .u32 xp] 59)).cell? ⟨w1.heap.size,2,none⟩ = some (.int .u32 xz) := (Blk.new_ w1 #[.int .u8 xk,.int .u32 xl,.int .u32 xz,.int .u32 xp] 59).cell 2
     have X2 := hQ_ ((bs_stp HX.out st1.chg (fun b o e => (HA2.out b o e).1)).below hbn)
     have F2 : Hid (∀ b o,A = some ⟨b,o,none⟩ → ¬ S1 b ∧ b < (w1.alloc (.cells #[.int .u8 xk,.int .u32 xl,.int .u32 (max xz (a + (n : Int))),.int .u32 xp] 59)).heap.size) := hQ_ (fun b o e => by
      have h5 := HA2.out b o e
      refine ⟨fun hs => ?_,?_⟩
      ·rcases st1.own b hs with q | q
       ·exact h5.1 q
       ·omega
      ·have := A2.out.size
       omega)
     clear hr1 st1 hbn AQ
     go_wp2_with fail
     refine (HWR.out _ _ _ A2.out.rep g0 g1 X2.out F2.out).mono ?_
     intro e w3 h3
     rcases Wrote.split h3 with ⟨s3,S3,D3,rfl,hg3,hr3,st3,af3⟩ | ⟨s3,S3,D3,rfl,hg3,hr3,st3,af3⟩
     ·have A3 := hQ_ (A2.out.step HS.out hr3 st3)
      have I3 := hQ_ (A2.out.blk HS.out I2.out (.inr rfl) st3)
      have q3 := C1.out.1.app C1.out.2 af3
      have C3 : Hid (Aft s s3 (wrPs ino xs (cutV a n)) 1 0 ∧ (goW s (wrPs ino xs (cutV a n))).2 = true) := hQ_ ⟨q3.1,q3.2.trans hg3⟩
      have L3 : Hid (Lim s3) := hQ_ (lim_aft af3 HL2.out (by have := HL2.out.rd; omega) (by have := HL2.out.rg; omega))
      clear h3 hr3 st3 af3 hg3 q3 f2
      have i0 := cC4 I3.out
      go_wp2_with fail
      refine (HSV.out xk xl (max xz (a + (n : Int))) xp _ _ _ _ A3.out.rep L3.out HBM.out).mono ?_
      intro e w4 h4
      rcases Wrote.split h4 with ⟨s4,S4,D4,rfl,hg4,hr4,st4,af4⟩ | ⟨s4,S4,D4,rfl,hg4,hr4,st4,af4⟩
      ·have A4 := hQ_ (A3.out.step HS.out hr4 st4)
       have q4 := C3.out.1.app C3.out.2 af4
       have C4 := hQ_ (And.intro q4.1 (q4.2.trans hg4))
       clear h4 hr4 st4 af4 hg4 q4
       go_wp2_with fail
       refine (HRO.out _ _).mono ?_
       rintro e w5 ⟨rfl,rfl⟩
       go_wp2_with fail
       go_ret
       exact Ans.ok A4.out C4.out
      ·have A4 := hQ_ (A3.out.step HS.out hr4 st4)
       have q4 := C3.out.1.app C3.out.2 af4
       have C4 := hQ_ (And.intro q4.1 (q4.2.trans hg4))
       clear h4 hr4 st4 af4 hg4 q4
       go_wp2_with fail
       refine (HRO.out _ _).mono ?_
       rintro e w5 ⟨rfl,rfl⟩
       go_wp2_with fail
       go_ret
       exact Ans.full A4.out C4.out
     ·have A3 := hQ_ (A2.out.step HS.out hr3 st3)
      have q3 := C1.out.1.app C1.out.2 af3
      have C3 : Hid (Aft s s3 (wrPs ino xs (cutV a n) ++ [saveP ino xk xl (max xz (a + (n : Int))) xp]) 1 0 ∧ (goW s (wrPs ino xs (cutV a n) ++ [saveP ino xk xl (max xz (a + (n : Int))) xp])).2 = false) := hQ_ (q3.1.stop (q3.2.trans hg3))
      clear h3 hr3 st3 af3 hg3 q3 f2
      go_wp2_with fail
      refine (HRO.out _ _).mono ?_
      rintro e w5 ⟨rfl,rfl⟩
      go_wp2_with fail
      go_ret
      exact Ans.full A3.out C3.out
 ·rw [if_pos he]
  have d1 : (xe != 0) = true := by simpa using he
  clear he
  go_enter Tryz.func40,Tryz.ntmps40
  go_wp2_with fail
  refine HLD.out.mono ?_
  rintro e w1 ⟨S1,D1,rfl,hr1,st1⟩
  have hbn := bN_ w1 (.cells #[.int .u8 xk,.int .u32 xl,.int .u32 xz,.int .u32 xp] 59)
  have A1 := hQ_ ((A0.out.step HS.out hr1 st1).below HS.out hbn)
  clear hr1 st1 hbn
  go_wp2_with fail
  go_ret
  exact HERR.out _ _ _ _ _ A1.out
end Go.Proofs.YtfalhnomhidkcaaGreatDoor.FileKh
namespace Go.Proofs.YtfalhnomhidkcaaGreatDoor.FileKi
open Go.RowKit
open Byte PackM KeysM TreeR ViewM NodeM NodeG WalkM WalkF WalkKm DirsV FileM FileV FileN Lst Chg TreeL ViewL WalkL WalkV Vat WalkKa DirsK DirsKa FileK FileKd FileKe FileKf FileKg FileKh
open TreeM hiding cutL
open Own hiding keeps
variable {Rep : RepT}
theorem tru_out : ∀ (ps : List Wrt) (L : List Pr),truV.outV L ps = DirsX.outW L ps
 | [],L => rfl
 | p :: ps,L => tru_out ps _
theorem v64_dels : ∀ (ks : List ByteArray) {L : List Pr},Rise L → ∀ {ino : Int},V64 L ino → V64 (DirsX.outW L (ks.map delP)) ino
 | [],L,hr,ino,h => h
 | k :: ks,L,hr,ino,h => v64_dels ks (rise_done hr _) (v64_done hr h (show (0 : Nat) ≤ 64 from Nat.zero_le _))
theorem drop_after {s s' : Vs} {ino z : Int} (ho : s.Ok) (ha : Aft s s' (drpPs s.shown ino z) 0 0) (hg : (goW s (drpPs s.shown ino z)).2 = true) (hv : V64 s.shown ino) : s'.shown = DirsX.outW s.shown (drpPs s.shown ino z) ∧ V64 s'.shown ino := by
 have h1 : s'.shown = DirsX.outW s.shown (drpPs s.shown ino z) := by rw [ha.sm.shown]; exact (DirsX.go_out _ ho hg).1
 refine ⟨h1,?_⟩
 rw [h1,drp_map]
 exact v64_dels _ (rise_shown ho.base _) hv
theorem Truncate_calls (hW : Wk Rep) (hK : LookOk Rep) (hT : SetOk Rep) (hCp : CpN Rep) {w : World} {v : Value} {s : Vs} {S D : Nat → Prop} (ino z : Int) (hr : Rep w v s S D) (hl : Lim s) (h2 : s.rd.length ≤ 19990) (h0 : 0 ≤ ino) (h1 : ino ≤ 4294967295) (z0 : -9223372036854775808 ≤ z) (z1 : z ≤ 9223372036854775807) (hk : ∀ p ∈ s.shown,(sp p.key).letter ≠ 0) (hv : V64 s.shown ino) :
 Calls Tryz.prog 42 #[v,.int .u32 ino,.int .i64 z] w (Ans Rep v s (truV s.shown ino z).1 (truV s.shown ino z).2 1 0 S D w) := by
 have A0 := hQ_ (At.start hr)
 have HLD := hQ_ (FileK.load_calls hW ino hr hl h0 h1)
 unfold FilV at HLD
 have HS := hQ_ hW.stays
 have hl2 : Lim (s.read (kI ino)) := ⟨hl.base,by have := read_len s (kI ino); omega,hl.rg⟩
 have hsh : (s.read (kI ino)).shown = s.shown := ((Sm.refl s).read _).shown
 have HDR := hQ_ (fun (b : Int) (w1 : World) (S1 D1 : Nat → Prop) (hr1 : Rep w1 v (s.read (kI ino)) S1 D1) (b0 : 0 ≤ b) (b1 : b ≤ 65535) => drop_calls hW hCp ino b hr1 hl2 h0 h1 b0 b1 (by rw [hsh]; exact hk))
 rw [hsh] at HDR
 have HSH := hQ_ (fun (w1 : World) (s5 : Vs) (S1 D1 : Nat → Prop) (hr1 : Rep w1 v s5 S1 D1) (hl5 : Lim s5) (b0 : 0 ≤ z) (b1 : z ≤ 4096) (hv5 : V64 s5.shown ino) => FileKc.shorten_calls hW hK hT ino z hr1 hl5 h0 h1 b0 b1 (hv5 (z / 64) (by omega) (by omega)))
 have HDA := hQ_ (fun (b : Int) (s5 : Vs) (ha : Aft (s.read (kI ino)) s5 (drpPs s.shown ino b) 0 0) (hg : (goW (s.read (kI ino)) (drpPs s.shown ino b)).2 = true) (ho : (s.read (kI ino)).Ok) => by
  have q := drop_after (s := s.read (kI ino)) (s' := s5) (ino := ino) (z := b) ho (by rw [hsh]; exact ha) (by rw [hsh]; exact hg) (by rw [hsh]; exact hv)
  rw [hsh] at q
  exact q)
 have HSV := hQ_ (fun (k l z p : Int) (w1 : World) (s5 : Vs) (S1 D1 : Nat → Prop) (hr1 : Rep w1 v s5 S1 D1) (hl5 : Lim s5) (hb : InoB k l z p) => save_w hW ino k l z p hr1 hl5 h0 h1 hb)
 have HRO := hQ_ FileK.room_calls
 have HBL := hQ_ (fun w => NodeK.blocks_ok z w (by omega) (by omega))
 have HL2 := hQ_ hl2
 have C1 := hQ_ (aft_load s (kI ino))
 have hbd := fil_bd s.shown ino
 unfold truV
 rw [tru_out]
 obtain ⟨q,hfx⟩ : ∃ q,filV s.shown ino = q := ⟨_,rfl⟩
 rw [hfx] at hbd HLD ⊢
 obtain ⟨⟨xk,xl,xz,xp⟩,xe⟩ := q
 dsimp only at hbd HLD ⊢
 obtain ⟨b0,b1,b2,b3,b4,b5,b6,b7⟩ := hbd
 have HER : ∀ (er : Int) (M S' D' : Nat → Prop) (w' : World),At Rep w S D M w' v (s.read (kI ino)) S' D' → Ans Rep v s er [] 1 0 S D w (.returned (.int .i64 er)) w' := fun er M S' D' w' h => ans_err h
 have HERR := hQ_ HER
 clear HER
 generalize hs1 : s.read (kI ino) = s1 at *
 clear hr hl hv hW hK hT hCp hl2 hsh hfx hs1 hk
 by_cases he : xe = 0
 ·subst he
  rw [if_neg (by decide)]
  by_cases c1 : z < 0
  ·rw [if_pos c1]
   have d1 : decide (z < 0) = true := by simpa using c1
   go_enter Tryz.func42,Tryz.ntmps42
   go_wp2_with fail
   refine HLD.out.mono ?_
   rintro e w1 ⟨S1,D1,rfl,hr1,st1⟩
   have hbn := bN_ w1 (.cells #[.int .u8 xk,.int .u32 xl,.int .u32 xz,.int .u32 xp] 59)
   have A1 := hQ_ ((A0.out.step HS.out hr1 st1).below HS.out hbn)
   clear hr1 st1 hbn
   go_wp2_with fail
   go_ret
   exact HERR.out _ _ _ _ _ A1.out
  ·rw [if_neg c1]
   have d1 : decide (z < 0) = false := by simpa using c1
   by_cases c2 : 4096 < z
   ·rw [if_pos c2]
    have d2 : decide (z > 4096) = true := by simpa using c2
    go_enter Tryz.func42,Tryz.ntmps42
    go_wp2_with fail
    refine HLD.out.mono ?_
    rintro e w1 ⟨S1,D1,rfl,hr1,st1⟩
    have hbn := bN_ w1 (.cells #[.int .u8 xk,.int .u32 xl,.int .u32 xz,.int .u32 xp] 59)
    have A1 := hQ_ ((A0.out.step HS.out hr1 st1).below HS.out hbn)
    clear hr1 st1 hbn
    go_wp2_with fail
    go_ret
    exact HERR.out _ _ _ _ _ A1.out
   ·rw [if_neg c2]
    have d2 : decide (z > 4096) = false := by simpa using c2
    have e3 : z % 4294967296 = z := by omega
    have e4 : NodeL.blk z = blkN z := rfl
    rw [e4] at HBL
    have g0 : 0 ≤ blkN z := by unfold blkN; split <;> omega
    have g1 : blkN z ≤ 65535 := by unfold blkN; split <;> omega
    have HBM : Hid (InoB xk xl z xp) := hQ_ ⟨b0,b1,b2,b3,by omega,by omega,b6,b7⟩
    have HDR2 := hQ_ (HDR.out (blkN z))
    have HDA2 := hQ_ (HDA.out (blkN z))
    generalize blkN z = bz at *
    generalize drpPs s.shown ino bz = dps at *
    have z2 : 0 ≤ z := by omega
    have z3 : z ≤ 4096 := by omega
    clear c1 c2 e4 HDR HDA
    go_enter Tryz.func42,Tryz.ntmps42
    go_wp2_with fail
    refine HLD.out.mono ?_
    rintro e w1 ⟨S1,D1,rfl,hr1,st1⟩
    have I2 := hQ_ (Blk.new_ w1 #[.int .u8 xk,.int .u32 xl,.int .u32 z,.int .u32 xp] 59)
    have hbn := bX_ I2.out
    have A2 := hQ_ ((A0.out.step HS.out hr1 st1).own HS.out hbn (Nat.le_refl w1.heap.size) (by simp))
    clear hr1 st1 hbn
    go_wp2_with fail
    refine (HBL.out _).mono ?_
    rintro e w2 ⟨rfl,hb2⟩
    have AB := hQ_ (A2.out.below HS.out hb2)
    have IB := hQ_ (I2.out.below hb2)
    have OK := hQ_ (HS.out.ok AB.out.rep)
    clear hb2
    go_wp2_with fail
    refine (HDR2.out _ _ _ AB.out.rep g0 g1).mono ?_
    intro e w3 h3
    rcases Wrote.split h3 with ⟨s3,S3,D3,rfl,hg3,hr3,st3,af3⟩ | ⟨s3,S3,D3,rfl,hg3,hr3,st3,af3⟩
    ·have A3 := hQ_ (AB.out.step HS.out hr3 st3)
     have I3 := hQ_ (AB.out.blk HS.out IB.out (.inr rfl) st3)
     have q3 := C1.out.1.app C1.out.2 af3
     have C3 : Hid (Aft s s3 dps 1 0 ∧ (goW s dps).2 = true) := hQ_ ⟨q3.1,q3.2.trans hg3⟩
     have L3 : Hid (Lim s3) := hQ_ (lim_aft af3 HL2.out (by have := HL2.out.rd; omega) (by have := HL2.out.rg; omega))
     obtain ⟨sh3,v3⟩ := HDA2.out s3 af3 hg3 OK.out
     have V3 := hQ_ v3
     have HSH3 := hQ_ (fun (w1 : World) (S1 D1 : Nat → Prop) (hr1 : Rep w1 v s3 S1 D1) => HSH.out w1 s3 S1 D1 hr1 L3.out z2 z3 V3.out)
     rw [sh3] at HSH3
     generalize shoPs (DirsX.outW s.shown dps) ino z = sps at *
     clear h3 hr3 st3 af3 hg3 q3 sh3 v3
     go_wp2_with fail
     refine (HSH3.out _ _ _ A3.out.rep).mono ?_
     intro e w4 h4
     rcases Wrote.split h4 with ⟨s4,S4,D4,rfl,hg4,hr4,st4,af4⟩ | ⟨s4,S4,D4,rfl,hg4,hr4,st4,af4⟩
     ·have A4 := hQ_ (A3.out.step HS.out hr4 st4)
      have I4 := hQ_ (A3.out.blk HS.out I3.out (.inr rfl) st4)
      have q4 := C3.out.1.app C3.out.2 af4
      have C4 : Hid (Aft s s4 (dps ++ sps) 1 0 ∧ (goW s (dps ++ sps)).2 = true) := hQ_ ⟨q4.1,q4.2.trans hg4⟩
      have L4 : Hid (Lim s4) := hQ_ (lim_aft af4 L3.out (by have := L3.out.rd; omega) (by have := L3.out.rg; omega))
      clear h4 hr4 st4 af4 hg4 q4
      have i0 := cC4 I4.out
      go_wp2_with fail
      refine (HSV.out xk xl z xp _ _ _ _ A4.out.rep L4.out HBM.out).mono ?_
      intro e w5 h5
      rcases Wrote.split h5 with ⟨s5,S5,D5,rfl,hg5,hr5,st5,af5⟩ | ⟨s5,S5,D5,rfl,hg5,hr5,st5,af5⟩
      ·have A5 := hQ_ (A4.out.step HS.out hr5 st5)
       have q5 := C4.out.1.app C4.out.2 af5
       have q6 := And.intro q5.1 (q5.2.trans hg5)
       rw [List.append_assoc] at q6
       have C5 := hQ_ q6
       clear h5 hr5 st5 af5 hg5 q5 q6
       go_wp2_with fail
       refine (HRO.out _ _).mono ?_
       rintro e w6 ⟨rfl,rfl⟩
       go_wp2_with fail
       go_ret
       exact Ans.ok A5.out C5.out
      ·have A5 := hQ_ (A4.out.step HS.out hr5 st5)
       have q5 := C4.out.1.app C4.out.2 af5
       have q6 := And.intro q5.1 (q5.2.trans hg5)
       rw [List.append_assoc] at q6
       have C5 := hQ_ q6
       clear h5 hr5 st5 af5 hg5 q5 q6
       go_wp2_with fail
       refine (HRO.out _ _).mono ?_
       rintro e w6 ⟨rfl,rfl⟩
       go_wp2_with fail
       go_ret
       exact Ans.full A5.out C5.out
     ·have A4 := hQ_ (A3.out.step HS.out hr4 st4)
      have q4 := C3.out.1.app C3.out.2 af4
      have q5 := q4.1.stop (qs := [saveP ino xk xl z xp]) (q4.2.trans hg4)
      rw [List.append_assoc] at q5
      have C4 := hQ_ q5
      clear h4 hr4 st4 af4 hg4 q4 q5
      go_wp2_with fail
      refine (HRO.out _ _).mono ?_
      rintro e w6 ⟨rfl,rfl⟩
      go_wp2_with fail
      go_ret
      exact Ans.full A4.out C4.out
    ·have A3 := hQ_ (AB.out.step HS.out hr3 st3)
     have q3 := C1.out.1.app C1.out.2 af3
     have C3 : Hid (Aft s s3 (dps ++ (shoPs (DirsX.outW s.shown dps) ino z ++ [saveP ino xk xl z xp])) 1 0 ∧ (goW s (dps ++ (shoPs (DirsX.outW s.shown dps) ino z ++ [saveP ino xk xl z xp]))).2 = false) := hQ_ (q3.1.stop (q3.2.trans hg3))
     clear h3 hr3 st3 af3 hg3 q3
     go_wp2_with fail
     refine (HRO.out _ _).mono ?_
     rintro e w5 ⟨rfl,rfl⟩
     go_wp2_with fail
     go_ret
     exact Ans.full A3.out C3.out
 ·rw [if_pos he]
  have d1 : (xe != 0) = true := by simpa using he
  clear he
  go_enter Tryz.func42,Tryz.ntmps42
  go_wp2_with fail
  refine HLD.out.mono ?_
  rintro e w1 ⟨S1,D1,rfl,hr1,st1⟩
  have hbn := bN_ w1 (.cells #[.int .u8 xk,.int .u32 xl,.int .u32 xz,.int .u32 xp] 59)
  have A1 := hQ_ ((A0.out.step HS.out hr1 st1).below HS.out hbn)
  clear hr1 st1 hbn
  go_wp2_with fail
  go_ret
  exact HERR.out _ _ _ _ _ A1.out
end Go.Proofs.YtfalhnomhidkcaaGreatDoor.FileKi
namespace Go.Proofs.YtfalhnomhidkcaaGreatDoor.FileO
open Byte PackM KeysM TreeM ViewM ViewKm WalkM WalkF WalkKm DirsM DirsV DirsW DirsX DirsY DirsS FileM FileV FileN
open NodeM hiding gk
def wrD (d : ByteArray) (a : Nat) (b : List Int) : ByteArray := str (setB (txt d ++ List.replicate (a - d.size) 0) b a)
def truD (d : ByteArray) (z : Nat) : ByteArray := str ((txt d ++ List.replicate (z - d.size) 0).take z)
theorem pad0_bd (d : ByteArray) (k : Nat) : ∀ x ∈ txt d ++ List.replicate k (0 : Int),0 ≤ x ∧ x ≤ 255 := fun x hx => by
 rcases List.mem_append.1 hx with h | h
 ·exact txt_bd d x h
 ·rw [List.eq_of_mem_replicate h]; exact ⟨by decide,by decide⟩
theorem setB_bd {l xs : List Int} {f : Nat} (h : ∀ x ∈ l,0 ≤ x ∧ x ≤ 255) (h2 : ∀ x ∈ xs,0 ≤ x ∧ x ≤ 255) : ∀ x ∈ setB l xs f,0 ≤ x ∧ x ≤ 255 := fun x hx => by
 unfold setB at hx
 rcases List.mem_append.1 hx with h3 | h3
 ·exact h x (List.mem_of_mem_take h3)
 ·rcases List.mem_append.1 h3 with h4 | h4
  ·exact h2 x h4
  ·exact h x (List.mem_of_mem_drop h4)
theorem wrD_txt (d : ByteArray) (a : Nat) {b : List Int} (hb : ∀ x ∈ b,0 ≤ x ∧ x ≤ 255) : txt (wrD d a b) = setB (txt d ++ List.replicate (a - d.size) 0) b a := txt_str _ (setB_bd (pad0_bd _ _) hb)
theorem truD_txt (d : ByteArray) (z : Nat) : txt (truD d z) = (txt d ++ List.replicate (z - d.size) 0).take z := txt_str _ (fun x hx => pad0_bd _ _ x (List.mem_of_mem_take hx))
theorem pad0_get (d : ByteArray) (k i : Nat) : (txt d ++ List.replicate k (0 : Int)).getD i 0 = (txt d).getD i 0 := by
 rw [app_get]
 split
 ·rfl
 ·rename_i h
  rw [rep_get,pf_far (by omega)]
theorem wrD_fun (d : ByteArray) (a : Nat) {b : List Int} (hb : ∀ x ∈ b,0 ≤ x ∧ x ≤ 255) : pf (txt (wrD d a b)) = putF (pf (txt d)) a b := by
 funext i
 unfold pf
 rw [wrD_txt d a hb,setB_get _ _ _ _ (by rw [List.length_append,List.length_replicate,txt_len]; omega)]
 unfold putF pf
 rw [pad0_get]
theorem wrD_size (d : ByteArray) (a : Nat) (b : List Int) : (wrD d a b).size = max d.size (a + b.length) := by
 unfold wrD setB
 rw [str_size,List.length_append,List.length_append,List.length_take,List.length_drop,List.length_append,List.length_replicate,txt_len]
 omega
theorem truD_fun (d : ByteArray) (z : Nat) : pf (txt (truD d z)) = fun i => if i < z then pf (txt d) i else 0 := by
 funext i
 unfold pf
 rw [truD_txt,take_get,pad0_get]
theorem truD_size (d : ByteArray) (z : Nat) : (truD d z).size = z := by
 unfold truD
 rw [str_size,List.length_take,List.length_append,List.length_replicate,txt_len]
 omega
def filM (F : Fs) (ino : Int) : Option Nd := (nodeM F ino).filter fun n => decide (n.kind = 1)
def reaM (F : Fs) (ino a n : Int) : List Int × Int := match filM F ino with
 | none => ([],16)
 | some x => if a < 0 ∨ n < 0 ∨ 1024 < n then ([],15) else (((txt x.data).drop a.toNat).take n.toNat,0)
def allM (F : Fs) (ino : Int) : List Int × Int := match filM F ino with
 | none => ([],16)
 | some x => (txt x.data,0)
def wriM (F : Fs) (ino a : Int) (b : List Int) : Int × Fs := match filM F ino with
 | none => (16,F)
 | some x => if a < 0 ∨ 1024 < b.length then (15,F) else if 4096 - (b.length : Int) < a then (19,F) else if b.length = 0 then (0,F) else (0,withM F { x with data := wrD x.data a.toNat b })
def truM (F : Fs) (ino z : Int) : Int × Fs := match filM F ino with
 | none => (16,F)
 | some x => if z < 0 then (15,F) else if 4096 < z then (19,F) else (0,withM F { x with data := truD x.data z.toNat })
theorem fil_some {F : Fs} {ino : Int} {n : Nd} (h : filM F ino = some n) : nodeM F ino = some n ∧ n.kind = 1 ∧ n.ino = ino ∧ n ∈ F := by
 unfold filM at h
 obtain ⟨h1,h2⟩ := Option.filter_eq_some_iff.1 h
 have h3 := node_mem h1
 exact ⟨h1,by simpa using h2,h3.2,h3.1⟩
theorem fil_none {F : Fs} {ino : Int} (h : filM F ino = none) : nodeM F ino = none ∨ ∃ n,nodeM F ino = some n ∧ n.kind ≠ 1 := by
 unfold filM at h
 cases e : nodeM F ino with
 | none => exact .inl rfl
 | some n =>
   rw [e] at h
   refine .inr ⟨n,rfl,fun hk => ?_⟩
   rw [Option.filter_some,if_pos (by simpa using hk)] at h
   cases h
section
variable {F : Fs} {π δ ε : Int → Int} {x : Int} {L : List Pr}
theorem Wd.data_ (h : Wd F π δ ε x) {n : Nd} (hn : nodeM F n.ino = some n) {d : ByteArray} (hd : d.size ≤ 4096) (hk : n.kind = 1) : Wd (withM F { n with data := d }) π δ ε x := by
 have hm := node_mem hn
 have hN : ∀ j,nodeM (withM F { n with data := d }) j = if j = n.ino then some { n with data := d } else nodeM F j := fun j => node_with (n := { n with data := d }) h.nod hm.1 rfl j
 have hy : ∀ z ∈ withM F { n with data := d },∃ y ∈ F,z.ino = y.ino ∧ z.kind = y.kind ∧ z.links = y.links ∧ z.ents = y.ents ∧ z.data.size ≤ 4096 ∧ (z.kind = 2 → z.data = NE) := fun z hz => by
  rw [mem_with (n := { n with data := d }) h.nod hm.1 rfl] at hz
  rcases hz with rfl | ⟨hz,_⟩
  ·exact ⟨n,hm.1,rfl,rfl,rfl,rfl,hd,fun h2 => by have h3 : n.kind = 2 := h2; omega⟩
  ·exact ⟨z,hz,rfl,rfl,rfl,rfl,h.data z hz⟩
 have hdr : ∀ j,dirB (withM F { n with data := d }) j = dirB F j := fun j => by
  unfold dirB
  rw [hN]
  by_cases hj : j = n.ino
  ·rw [if_pos hj,hj,hn]
  ·rw [if_neg hj]
 have hs : ∀ l,subs (withM F { n with data := d }) l = subs F l := fun l => subs_eq (fun e _ => hdr e.ino)
 have hc : ∀ j,DirsM.cnt (withM F { n with data := d }) j = DirsM.cnt F j := fun j => by
  have := S_with (n := { n with data := d }) h.nod hm.1 rfl (toE j)
  have e : toE j { n with data := d } = toE j n := rfl
  unfold DirsM.cnt
  omega
 refine ⟨nod_with h.nod hm.1 rfl,?_,fun z hz => ?_,fun z hz => ?_,fun z hz => ?_,fun z hz => ?_,fun z hz => ?_,fun z hz => ?_,fun z hz e he hx => ?_,fun z hz e he hde => ?_,h.par1,fun z hz => ?_,fun z hz hk => ?_,fun z hz hk => ?_⟩
 ·obtain ⟨r,h3,h4⟩ := h.root
  rw [hN]
  by_cases hj : (1 : Int) = n.ino
  ·rw [if_pos hj]
   rw [hj,hn] at h3
   injection h3 with h3
   subst h3
   exact ⟨_,rfl,h4⟩
  ·rw [if_neg hj]
   exact ⟨r,h3,h4⟩
 ·obtain ⟨y,a,b,c,e,f,g⟩ := hy z hz
  rw [b]; exact h.ino y a
 ·obtain ⟨y,a,b,c,e,f,g⟩ := hy z hz
  rw [c,f]; exact h.kind y a
 ·obtain ⟨y,a,b,c,e,f,g⟩ := hy z hz
  exact g
 ·obtain ⟨y,a,b,c,e,f,g⟩ := hy z hz
  rw [f]; exact h.ord y a
 ·obtain ⟨y,a,b,c,e,f,g⟩ := hy z hz
  rw [f]; exact h.name y a
 ·obtain ⟨y,a,b,c,e,f,g⟩ := hy z hz
  rw [f]; exact h.some_ y a
 ·obtain ⟨y,a,b,c,e2,f,g⟩ := hy z hz
  rw [f] at he
  obtain ⟨m,hm2⟩ := h.goes y a e he hx
  rw [hN]
  by_cases hj : e.ino = n.ino
  ·rw [if_pos hj]; exact ⟨_,rfl⟩
  ·rw [if_neg hj]; exact ⟨m,hm2⟩
 ·obtain ⟨y,a,b,c,e2,f,g⟩ := hy z hz
  rw [f] at he
  rw [hdr] at hde
  rw [b]; exact h.par y a e he hde
 ·obtain ⟨y,a,b,c,e2,f,g⟩ := hy z hz
  rw [hc,b,h.cnt y a]
  unfold wantC
  rw [b,c,e2]
 ·obtain ⟨y,a,b,c,e2,f,g⟩ := hy z hz
  rw [e2]; exact h.pos y a (by rw [← c]; exact hk)
 ·obtain ⟨y,a,b,c,e2,f,g⟩ := hy z hz
  rw [hs,e2,f,b]; exact h.dl y a (by rw [← c]; exact hk)
theorem Sim.data_ (h : Sim F π (DirsX.gk L)) {g' : Gf} {n : Nd} (hn : nodeM F n.ino = some n) {d : ByteArray} (hd : d.size ≤ 4096) (hk : n.kind = 1) (hr : RG (withM F { n with data := d }) π g') : Sim (withM F { n with data := d }) π g' :=
 ⟨Wd.data_ h.wf hn hd hk,hr,h.pb,fun z hz => by
   rw [mem_with (n := { n with data := d }) h.wf.nod (node_mem hn).1 rfl] at hz
   rcases hz with rfl | ⟨hz,_⟩
   ·exact h.small n (node_mem hn).1
   ·exact h.small z hz⟩
theorem fil_same (h : Sim F π (DirsX.gk L)) {ino : Int} (h0 : 0 ≤ ino) (h1 : ino ≤ 4294967295) : filV L ino = match filM F ino with
 | none => (ino0,16)
 | some n => (⟨1,n.links,n.data.size,0⟩,0) := by
 unfold filV
 rw [load_g]
 cases hf : filM F ino with
 | some n =>
   obtain ⟨h2,h3,h4,h5⟩ := fil_some hf
   rw [h.load h2,if_pos ⟨rfl,h3⟩]
   show (inoL π n,(0 : Int)) = _
   unfold inoL
   rw [h3]
   rfl
 | none =>
   rcases fil_none hf with h2 | ⟨n,h2,h3⟩
   ·by_cases h4 : ino = 1
    ·obtain ⟨r,hr,_⟩ := h.wf.root
     rw [h4,hr] at h2
     cases h2
    ·rw [load_no h.rg h.bs h0 h1 h4 h2,if_neg (by rintro ⟨a,_⟩; cases a)]
   ·rw [h.load h2,if_neg (by rintro ⟨_,a⟩; exact h3 a)]
theorem blks_of {g : Gf} (h : RG F π g) {n : Nd} (hn : n ∈ F) : Blks g n.ino (pf (txt n.data)) := fun w hw => by rw [h.blks n hn w hw,blkG_fun]
theorem rng_cat (φ : Nat → Int) (a m k : Nat) : (List.range m).map (fun i => φ (a + i)) ++ (List.range k).map (fun i => φ (a + m + i)) = (List.range (m + k)).map fun i => φ (a + i) := by
 rw [List.range_add,List.map_append,List.map_map]
 congr 1
 exact List.map_congr_left fun i _ => by show φ (a + m + i) = φ (a + (m + i)); rw [Nat.add_assoc]
theorem bfun_part (φ : Nat → Int) (q f m : Nat) (h : f + m ≤ 64) : ((bfun φ q).drop f).take m = (List.range m).map fun i => φ (64 * q + f + i) := by
 refine List.ext_getElem (by rw [List.length_take,List.length_drop,bfun_len,List.length_map,List.length_range]; omega) (fun i h1 h2 => ?_)
 rw [List.length_map,List.length_range] at h2
 rw [List.getElem_take,List.getElem_drop,List.getElem_map,List.getElem_range]
 unfold bfun
 rw [List.getElem_map,List.getElem_range,Nat.add_assoc]
theorem rd_cuts {ino : Int} {φ : Nat → Int} (h : Blks (DirsX.gk L) ino φ) (hb : Byt φ) : ∀ (fu : Nat) {a n : Int},0 ≤ a → a + n ≤ 4096 → n ≤ fu → rdL L ino (cuts fu a n) = (List.range n.toNat).map fun i => φ (a.toNat + i) := by
 intro fu
 induction fu with
 | zero =>
   intro a n a0 h1 h2
   rw [show n.toNat = 0 by omega]
   rfl
 | succ fu ih =>
   intro a n a0 h1 h2
   unfold cuts
   by_cases hn : n ≤ 0
   ·rw [if_pos hn,show n.toNat = 0 by omega]
    rfl
   ·rw [if_neg hn]
    obtain ⟨m,hm⟩ : ∃ m : Nat,min n (64 - a % 64) = m := ⟨(min n (64 - a % 64)).toNat,by omega⟩
    rw [hm]
    have hI := ih (a := a + m) (n := n - m) (by omega) (by omega) (by omega)
    show pcB L ino (a / 64,a % 64,(m : Int)) ++ rdL L ino (cuts fu (a + m) (n - m)) = _
    rw [hI]
    unfold pcB
    dsimp only
    rw [getB_fun h hb (by omega),Int.toNat_natCast,bfun_part _ _ _ _ (by omega),show 64 * (a / 64).toNat + (a % 64).toNat = a.toNat by omega,show (a + (m : Int)).toNat = a.toNat + m by omega,rng_cat]
    congr 2
    omega
theorem rng_txt (d : ByteArray) (a n : Nat) (h : a + n ≤ d.size) : (List.range n).map (fun i => pf (txt d) (a + i)) = ((txt d).drop a).take n := by
 refine List.ext_getElem (by rw [List.length_take,List.length_drop,List.length_map,List.length_range,txt_len]; omega) (fun i h1 h2 => ?_)
 rw [List.length_map,List.length_range] at h1
 rw [List.getElem_take,List.getElem_drop,List.getElem_map,List.getElem_range]
 unfold pf
 rw [List.getD_eq_getElem?_getD,List.getElem?_eq_getElem (by rw [txt_len]; omega)]
 rfl
theorem rd_same (h : RG F π (DirsX.gk L)) {n : Nd} (hn : n ∈ F) (hd : n.data.size ≤ 4096) {a m : Int} (a0 : 0 ≤ a) : rdL L n.ino (cutV a (min m ((n.data.size : Int) - a))) = ((txt n.data).drop a.toNat).take m.toNat := by
 have hb := blks_of h hn
 have hy : Byt (pf (txt n.data)) := byt_pf (txt_bd _)
 unfold cutV
 by_cases hm : min m ((n.data.size : Int) - a) ≤ 0
 ·rw [if_pos (.inr (.inl hm))]
  by_cases h2 : m ≤ 0
  ·rw [show m.toNat = 0 by omega,List.take_zero]; rfl
  ·rw [List.drop_eq_nil_of_le (by rw [txt_len]; omega),List.take_nil]; rfl
 ·rw [if_neg (by omega),rd_cuts hb hy _ a0 (by omega) (by omega),rng_txt _ _ _ (by omega)]
  by_cases h2 : m ≤ (n.data.size : Int) - a
  ·rw [show min m ((n.data.size : Int) - a) = m by omega]
  ·rw [show min m ((n.data.size : Int) - a) = (n.data.size : Int) - a by omega,List.take_of_length_le (by rw [List.length_drop,txt_len]; omega),List.take_of_length_le (by rw [List.length_drop,txt_len]; omega)]
theorem rea_same (h : Sim F π (DirsX.gk L)) {ino : Int} (h0 : 0 ≤ ino) (h1 : ino ≤ 4294967295) (a n : Int) : reaV L ino a n = reaM F ino a n := by
 unfold reaV reaM
 rw [fil_same h h0 h1]
 cases hf : filM F ino with
 | none => rfl
 | some x =>
   obtain ⟨h2,h3,h4,h5⟩ := fil_some hf
   dsimp only
   rw [if_neg (by decide)]
   by_cases hc : a < 0 ∨ n < 0 ∨ 1024 < n
   ·rw [if_pos hc,if_pos hc]
   ·rw [if_neg hc,if_neg hc,← h4,rd_same h.rg h5 (h.wf.data x h5).1 (by omega)]
theorem all_same (h : Sim F π (DirsX.gk L)) {ino : Int} (h0 : 0 ≤ ino) (h1 : ino ≤ 4294967295) : allV L ino = allM F ino := by
 unfold allV allM
 rw [fil_same h h0 h1]
 cases hf : filM F ino with
 | none => rfl
 | some x =>
   obtain ⟨h2,h3,h4,h5⟩ := fil_some hf
   dsimp only
   rw [if_neg (by decide),← h4]
   have := rd_same h.rg h5 (h.wf.data x h5).1 (a := 0) (m := x.data.size) (Int.le_refl _)
   rw [show min (x.data.size : Int) ((x.data.size : Int) - 0) = x.data.size by omega] at this
   rw [this]
   show (((txt x.data).drop 0).take _,(0 : Int)) = _
   rw [List.drop_zero,List.take_of_length_le (by rw [txt_len]; omega)]
structure Dit (L : List Pr) (π : Int → Int) (V : Int × List Wrt) (M : Int × Fs) : Prop where
 er : V.1 = M.1
 sim : Sim M.2 π (DirsX.gk (outW L V.2))
 no : V.1 ≠ 0 → V.2 = []
theorem saved {g : Gf} (hr : Rise L) {ino k l z p : Int} : DirsX.gk (doneW L (saveP ino k l z p L)) = setG (DirsX.gk L) ⟨kI ino,nput k l z p,false⟩ := by
 rw [gk_done hr]; rfl
theorem wri_same (h : Sim F π (DirsX.gk L)) (hr : Rise L) {ino : Int} (h0 : 0 ≤ ino) (h1 : ino ≤ 4294967295) (a : Int) (b : List Int) (hb : ∀ x ∈ b,0 ≤ x ∧ x ≤ 255) : Dit L π (wriV L ino a b) (wriM F ino a b) := by
 unfold wriV wriM
 rw [fil_same h h0 h1]
 cases hf : filM F ino with
 | none => exact ⟨rfl,h,fun _ => rfl⟩
 | some x =>
   obtain ⟨h2,h3,h4,h5⟩ := fil_some hf
   have hxd := (h.wf.data x h5).1
   dsimp only
   rw [if_neg (by decide)]
   by_cases c1 : a < 0 ∨ 1024 < b.length
   ·rw [if_pos c1,if_pos c1]; exact ⟨rfl,h,fun _ => rfl⟩
   rw [if_neg c1,if_neg c1]
   by_cases c2 : 4096 - (b.length : Int) < a
   ·rw [if_pos c2,if_pos c2]; exact ⟨rfl,h,fun _ => rfl⟩
   rw [if_neg c2,if_neg c2]
   by_cases c3 : b.length = 0
   ·rw [if_pos c3,if_pos c3]; exact ⟨rfl,h,fun _ => rfl⟩
   rw [if_neg c3,if_neg c3]
   have hB := blks_of h.rg h5
   rw [h4] at hB
   have hW := wrs_blks h0 h1 (b.length : Int).toNat (a := a) (n := b.length) (xs := b) (by omega) (by omega) (by omega) (by omega) hb (byt_pf (txt_bd x.data)) hr hB
   have e1 : cutV a b.length = cuts (b.length : Int).toNat a b.length := by unfold cutV; rw [if_neg (by omega)]
   rw [e1]
   refine ⟨rfl,?_,fun h => absurd rfl h⟩
   show Sim _ π (DirsX.gk (outW L _))
   rw [out_app]
   have hr2 := rise_out (wrPs ino b (cuts (b.length : Int).toNat a b.length)) hr
   obtain ⟨L2,hL2⟩ : ∃ L2,outW L (wrPs ino b (cuts (b.length : Int).toNat a b.length)) = L2 := ⟨_,rfl⟩
   rw [hL2] at hW hr2 ⊢
   show Sim _ π (DirsX.gk (doneW L2 (saveP ino 1 x.links (max (x.data.size : Int) (a + b.length)) 0 L2)))
   rw [saved (g := DirsX.gk L) hr2]
   have hsz : ((wrD x.data a.toNat b).size : Int) = max (x.data.size : Int) (a + b.length) := by rw [wrD_size]; omega
   refine Sim.data_ h (by rw [h4]; exact h2) (by omega) h3 (RG.data_ h.rg h.bs (n := x) (n' := { x with data := wrD x.data a.toNat b }) (by rw [h4]; exact h2) rfl rfl ?_ (fun w hw => ?_) (fun k k1 k2 => ?_))
   ·rw [h4,setG_same]
    unfold inoW
    dsimp only
    rw [h3,hsz]
    rfl
   ·rw [h4,setG_ne _ (p := ⟨kI ino,_,false⟩) (kID h0 h1 h0 h1 hw).symm,hW.1 w hw,blkG_fun,wrD_fun _ _ hb]
   ·rw [h4] at k1 k2
    rw [setG_ne _ (p := ⟨kI ino,_,false⟩) k1]
    exact hW.2 k k2
theorem key_D (h : RG F π (DirsX.gk L)) (b : Bs F) (hr : Rise L) {ino z : Int} (h0 : 0 ≤ ino) (h1 : ino ≤ 4294967295) {k : ByteArray} (hk : ∀ w,0 ≤ w ∧ w ≤ 65535 → k ≠ kD ino w) : ∀ p ∈ L,p.key = k → blkF ino z p = false := fun p hp e => by
 unfold blkF
 have hg : DirsX.gk L k ≠ none := by
  unfold DirsX.gk
  rw [(get_iff hr).2 ⟨hp,e⟩]; simp
 rw [e]
 rcases h.keys k hg with ⟨n,h3,h4⟩ | ⟨n,h3,e3,h4,h5⟩ | ⟨n,h3,w,h4,h5,h6⟩
 ·have hb := b.ino n h3
  rw [h4,sp_I n.ino (by omega) hb.2]; rfl
 ·have hb := b.ino n h3
  have hn := b.name n h3 e3 h4
  rw [h5,sp_E n.ino e3.name (by omega) hb.2 hn.1 hn.2]; rfl
 ·have hb := b.ino n h3
  rw [h5,sp_D n.ino w (by omega) hb.2 h4.1 h4.2]
  have : n.ino ≠ ino := fun e4 => hk w h4 (by rw [h5,e4])
  simp [this]
theorem tru_out : ∀ (ps : List Wrt) (L : List Pr),truV.outV L ps = outW L ps
 | [],L => rfl
 | p :: ps,L => tru_out ps _
theorem tru_same (h : Sim F π (DirsX.gk L)) (hr : Rise L) {ino : Int} (h0 : 0 ≤ ino) (h1 : ino ≤ 4294967295) (z : Int) : Dit L π (truV L ino z) (truM F ino z) := by
 unfold truV truM
 rw [fil_same h h0 h1]
 cases hf : filM F ino with
 | none => exact ⟨rfl,h,fun _ => rfl⟩
 | some x =>
   obtain ⟨h2,h3,h4,h5⟩ := fil_some hf
   have hxd := (h.wf.data x h5).1
   dsimp only
   rw [if_neg (by decide)]
   by_cases c1 : z < 0
   ·rw [if_pos c1,if_pos c1]; exact ⟨rfl,h,fun _ => rfl⟩
   rw [if_neg c1,if_neg c1]
   by_cases c2 : 4096 < z
   ·rw [if_pos c2,if_pos c2]; exact ⟨rfl,h,fun _ => rfl⟩
   rw [if_neg c2,if_neg c2,tru_out]
   have hB := blks_of h.rg h5
   rw [h4] at hB
   have hy : Byt (pf (txt x.data)) := byt_pf (txt_bd _)
   have hn0 : 0 ≤ blkN z := by unfold blkN; split <;> omega
   have hD := drop_blks hB hr h0 h1 hn0
   have hO : ∀ k,(∀ w,0 ≤ w ∧ w ≤ 65535 → k ≠ kD ino w) → DirsX.gk (outW L (drpPs L ino (blkN z))) k = DirsX.gk L k := fun k hk => drop_off hr (key_D h.rg h.bs hr h0 h1 hk)
   have hr2 := rise_out (drpPs L ino (blkN z)) hr
   refine ⟨rfl,?_,fun h => absurd rfl h⟩
   show Sim _ π (DirsX.gk (outW L _))
   rw [out_app,out_app]
   obtain ⟨L2,hL2⟩ : ∃ L2,outW L (drpPs L ino (blkN z)) = L2 := ⟨_,rfl⟩
   rw [hL2] at hD hO hr2 ⊢
   have hS := sho_blks hD (fun i => by dsimp only; split; exact hy i; exact ⟨by decide,by decide⟩) hr2 h0 h1 (z := z) (by omega) (by omega)
   have hSO : ∀ k,(∀ w,0 ≤ w ∧ w ≤ 65535 → k ≠ kD ino w) → DirsX.gk (outW L2 (shoPs L2 ino z)) k = DirsX.gk L2 k := fun k hk => sho_off hr2 (by omega) hk
   have hr3 := rise_out (shoPs L2 ino z) hr2
   obtain ⟨L3,hL3⟩ : ∃ L3,outW L2 (shoPs L2 ino z) = L3 := ⟨_,rfl⟩
   rw [hL3] at hS hSO hr3 ⊢
   show Sim _ π (DirsX.gk (doneW L3 (saveP ino 1 x.links z 0 L3)))
   rw [saved (g := DirsX.gk L) hr3]
   have hsz : ((truD x.data z.toNat).size : Int) = z := by rw [truD_size]; omega
   refine Sim.data_ h (by rw [h4]; exact h2) (by omega) h3 (RG.data_ h.rg h.bs (n := x) (n' := { x with data := truD x.data z.toNat }) (by rw [h4]; exact h2) rfl rfl ?_ (fun w hw => ?_) (fun k k1 k2 => ?_))
   ·rw [h4,setG_same]
    unfold inoW
    dsimp only
    rw [h3,hsz]
    rfl
   ·rw [h4,setG_ne _ (p := ⟨kI ino,_,false⟩) (kID h0 h1 h0 h1 hw).symm,hS w hw,blkG_fun,truD_fun]
    refine bG_congr fun i hi => ?_
    have hq : blkN z = (z + 63) / 64 := by unfold blkN; split <;> omega
    by_cases e1 : 64 * w.toNat + i < z.toNat
    ·rw [if_neg (by omega),if_pos (by omega),if_pos e1]
    ·rw [if_neg e1]
     split
     ·rfl
     ·rw [if_neg (by omega)]
   ·rw [h4] at k1 k2
    rw [setG_ne _ (p := ⟨kI ino,_,false⟩) k1]
    rw [hSO k k2]
    exact hO k k2
end
end Go.Proofs.YtfalhnomhidkcaaGreatDoor.FileO
namespace Go.Proofs.YtfalhnomhidkcaaGreatDoor.FileR
open Go.RowKit
open Byte KeysM TreeM Lst Ho Tx NodeG NamesM WalkF DirsM DirsW Chg DirsR DirsRa DirsRc DirsRe FileO
open Own hiding keeps
open ViewR (Sh)
theorem at_no {T : Nat → Prop} (h : Sh) (F : Fs) (i : Int) (w : World) (hf : FsA T w h F) (hn : nodeM F i = none) (hs : F.length ≤ 1000) :
 Calls Tryz.prog 39 #[.agg #[.slice h.a h.n h.c],.int .u32 i] w fun e w' => e = .returned (.int .i64 (-1)) ∧ Below w.heap.size w w' := by
 obtain ⟨W,hW,HF,HB,c0⟩ := boxed hf
 have hlen : h.n ≤ 1000 := by rw [← hf.len]; exact hs
 have HLN := hQ_ hf.len
 have HNO := hQ_ (node_none hn)
 obtain ⟨ha,hm,hc⟩ := h
 dsimp only at hlen HLN c0 hW
 have HW := hQ_ hW
 clear hf hn hs hW
 go_enter Tryz.func39,Tryz.ntmps39
 go_wp2_with fail
 rw [HW.out]
 go_loop [9] (fun j => ∃ k : Nat,k ≤ hm ∧ j = .int .i64 k) (fun j => hm - (intOf j).toNat)
 case atStart => exact ⟨0,Nat.zero_le _,rfl⟩
 case round =>
  obtain ⟨k,hk,rfl⟩ := hrel
  by_cases hlt : k < hm
  ·obtain ⟨x,hx⟩ : ∃ x,F[k]? = some x := ⟨_,List.getElem?_eq_getElem (by rw [HLN.out]; exact hlt)⟩
   obtain ⟨b,o,he,rfl,hb,_,hcl,_⟩ := HF.out.get hx
   have c1 : W.cell? ⟨b,o + k * 5,none⟩ = some (.int .u32 x.ino) := hcl 0 _ rfl
   have d1 : (x.ino == i) = false := by simpa using HNO.out x (List.mem_of_getElem? hx)
   clear hcl hx
   go_wp2_with fail
   go_round
   case rel => exact ⟨k + 1,by omega,by go_num⟩
   case measure => simp [intOf]; omega
  ·go_wp2_with fail
   go_ret
   exact ⟨rfl,HB.out⟩
def zN : Array Value := #[.int .u32 0,.int .u8 0,.int .i64 0,.string ⟨#[]⟩,.slice none 0 0]
def FilE (T : Nat → Prop) (F : Fs) (ino : Int) (w : World) (e : Ending) (w' : World) : Prop := Below w.heap.size w w' ∧ ((filM F ino = none ∧ e = .returned (.tuple #[.agg zN,.int .i64 16])) ∨ ∃ n he,filM F ino = some n ∧ EntA T w' he n.ents ∧ e = .returned (.tuple #[nodeV n he,.int .i64 0]))
theorem two {T : Nat → Prop} {w : World} {h : Sh} {F : Fs} (hf : FsA T w h F) : ∃ W,(w.alloc (.cells #[.slice h.a h.n h.c] 29)).alloc (.cells zN 85) = W ∧ Hid (FsA T W h F) ∧ Hid (Below w.heap.size w W) ∧ Hid (Blk W w.heap.size #[.slice h.a h.n h.c] 29) ∧ Hid (Blk W (w.heap.size + 1) zN 85) := by
 have hb : Below w.heap.size w ((w.alloc (.cells #[.slice h.a h.n h.c] 29)).alloc (.cells zN 85)) := (bW_).alloc (by simp) _
 refine ⟨_,rfl,hQ_ (hf.below hb),hQ_ hb,hQ_ ((Blk.new_ w _ _).alloc _),hQ_ ?_⟩
 have := Blk.new_ (w.alloc (.cells #[.slice h.a h.n h.c] 29)) zN 85
 simpa using this
theorem file_calls {T : Nat → Prop} (h : Sh) (F : Fs) (ino : Int) (w : World) (hf : FsA T w h F) (hs : SmF F) :
 Calls Tryz.prog 128 #[.agg #[.slice h.a h.n h.c],.int .u32 ino] w (FilE T F ino w) := by
 obtain ⟨W,hW,HF,HB,B0,B1⟩ := two hf
 unfold zN at hW B1
 have HLN := hQ_ hf.len
 have HSL := hQ_ hs.len
 obtain ⟨ha,hm,hc⟩ := h
 have c0 := cZ0 B0.out
 dsimp only at HLN hW
 have HW := hQ_ hW
 cases hn : nodeM F ino with
 | none =>
   have HNO : Hid (filM F ino = none) := hQ_ (by unfold filM; rw [hn]; rfl)
   have HAT := hQ_ (at_no ⟨ha,hm,hc⟩ F ino W HF.out hn hs.len)
   dsimp only at HAT
   clear hf hs hn hW
   go_enter Tryz.func128,Tryz.ntmps128
   go_wp2_with fail
   rw [HW.out]
   go_wp2_with fail
   refine HAT.out.mono ?_
   rintro e w1 ⟨rfl,hb1⟩
   have HB1 := hQ_ (Own.keeps HB.out hb1)
   have N1 := hQ_ (B1.out.below hb1)
   clear hb1
   go_wp2_with ((with_reducible refine pick none ?_); refine store_blk rfl 85 _ _ rfl (w.heap.size + 1) #[.int .u32 0,.int .u8 0,.int .i64 0,.string ⟨#[]⟩,.slice none 0 0] rfl rfl 85 _ N1.out info_node rfl (by simp [Value.oneCell']) ?_; intro w5 hk5 hg5)
   exact bodyPost_ret (v := .tuple #[.agg #[.int .u32 0,.int .u8 0,.int .i64 0,.string ⟨#[]⟩,.slice none 0 0],.int .i64 16]) (results_row_tmp rfl _ _ (w.heap.size + 1) 85 _ (0,0) _ rfl _ rfl hk5 Tryz.underlying85 rfl info_node) rfl ⟨HB1.out.grown hg5 HB1.out.size (fun k hk => by injection hk with hk; omega),.inl ⟨HNO.out,rfl⟩⟩
 | some n =>
   have HAT := hQ_ (at_calls ⟨ha,hm,hc⟩ F ino n W HF.out hn hs.len)
   unfold AtE at HAT
   dsimp only at HAT
   obtain ⟨hi1,hi2⟩ := idx_at hn
   obtain ⟨b,o,he,rfl,hb,hkn,hcl,hen⟩ := hf.get hi1
   have hkm : idx F ino < hm := hkn
   have HEN := hQ_ hen
   have HCW := hQ_ (show w.rangeAt b (o + idx F ino * 5) [.int .u32 n.ino,.int .u8 n.kind,.int .i64 n.links,.string n.data,.slice he.a he.n he.c] from hcl)
   have hil := hi2
   have HSL2 := HSL.out
   obtain ⟨K,hK⟩ : ∃ K,idx F ino = K := ⟨_,rfl⟩
   rw [hK] at HAT HCW hkm hil
   by_cases hk1 : n.kind = 1
   ·have HFM : Hid (filM F ino = some n) := hQ_ (by unfold filM; rw [hn,Option.filter_some,if_pos (by simpa using hk1)])
    have d1 : (n.kind != 1) = false := by simpa using hk1
    obtain ⟨ni,nk,nl,nd,ne⟩ := n
    obtain ⟨ea,em,ec⟩ := he
    dsimp only at HCW HEN d1
    clear hf hs hn hW hi1 hi2 hcl hen hkn hK hk1
    go_enter Tryz.func128,Tryz.ntmps128
    go_wp2_with fail
    rw [HW.out]
    go_wp2_with fail
    refine HAT.out.mono ?_
    rintro e w1 ⟨rfl,hb1⟩
    have HB1 := hQ_ (Own.keeps HB.out hb1)
    have N1 := hQ_ (B1.out.below hb1)
    have d0 : w1.cell? ⟨w.heap.size,0,none⟩ = some (.slice (some ⟨b,o,none⟩) hm hc) := (B0.out.below hb1).cell 0
    have HC1 : Hid (w1.rangeAt b (o + K * 5) [.int .u32 ni,.int .u8 nk,.int .i64 nl,.string nd,.slice ea em ec]) := hQ_ (fun i v hv => (HB1.out.cell (p := ⟨b,o + K * 5 + i,none⟩) hb).trans (HCW.out i v hv))
    have c2 : w1.cell? ⟨b,o + K * 5 + 1,none⟩ = some (.int .u8 nk) := HC1.out 1 _ rfl
    clear hb1 c0
    go_wp2_with (first
     | ((with_reducible refine pick (some 26) ?_); refine wpList_load_mid rfl 85 _ rfl b (o + K * 5) rfl [.int .u32 ni,.int .u8 nk,.int .i64 nl,.string nd,.slice ea em ec] _ HC1.out Tryz.underlying85 rfl info_node ?_)
     | ((with_reducible refine pick none ?_); refine store_blk rfl 85 _ _ rfl (w.heap.size + 1) #[.int .u32 ni,.int .u8 nk,.int .i64 nl,.string nd,.slice ea em ec] rfl rfl 85 _ N1.out info_node rfl (by simp [Value.oneCell']) ?_; intro w5 hk5 hg5))
    have hb5 : Below w.heap.size w w5 := HB1.out.grown hg5 HB1.out.size (fun k hk => by injection hk with hk; omega)
    exact bodyPost_ret (v := .tuple #[.agg #[.int .u32 ni,.int .u8 nk,.int .i64 nl,.string nd,.slice ea em ec],.int .i64 0]) (results_row_tmp rfl _ _ (w.heap.size + 1) 85 _ (0,0) _ rfl _ rfl hk5 Tryz.underlying85 rfl info_node) rfl ⟨hb5,.inr ⟨_,⟨ea,em,ec⟩,HFM.out,HEN.out.below hb5,rfl⟩⟩
   ·have HFM : Hid (filM F ino = none) := hQ_ (by unfold filM; rw [hn,Option.filter_some,if_neg (by simpa using hk1)])
    have d1 : (n.kind != 1) = true := by simpa using hk1
    obtain ⟨ni,nk,nl,nd,ne⟩ := n
    obtain ⟨ea,em,ec⟩ := he
    dsimp only at HCW HEN d1
    clear hf hs hn hW hi1 hi2 hcl hen hkn hK hk1
    go_enter Tryz.func128,Tryz.ntmps128
    go_wp2_with fail
    rw [HW.out]
    go_wp2_with fail
    refine HAT.out.mono ?_
    rintro e w1 ⟨rfl,hb1⟩
    have HB1 := hQ_ (Own.keeps HB.out hb1)
    have N1 := hQ_ (B1.out.below hb1)
    have d0 : w1.cell? ⟨w.heap.size,0,none⟩ = some (.slice (some ⟨b,o,none⟩) hm hc) := (B0.out.below hb1).cell 0
    have HC1 : Hid (w1.rangeAt b (o + K * 5) [.int .u32 ni,.int .u8 nk,.int .i64 nl,.string nd,.slice ea em ec]) := hQ_ (fun i v hv => (HB1.out.cell (p := ⟨b,o + K * 5 + i,none⟩) hb).trans (HCW.out i v hv))
    have c2 : w1.cell? ⟨b,o + K * 5 + 1,none⟩ = some (.int .u8 nk) := HC1.out 1 _ rfl
    clear hb1 c0
    go_wp2_with ((with_reducible refine pick none ?_); refine store_blk rfl 85 _ _ rfl (w.heap.size + 1) #[.int .u32 0,.int .u8 0,.int .i64 0,.string ⟨#[]⟩,.slice none 0 0] rfl rfl 85 _ N1.out info_node rfl (by simp [Value.oneCell']) ?_; intro w5 hk5 hg5)
    exact bodyPost_ret (v := .tuple #[.agg #[.int .u32 0,.int .u8 0,.int .i64 0,.string ⟨#[]⟩,.slice none 0 0],.int .i64 16]) (results_row_tmp rfl _ _ (w.heap.size + 1) 85 _ (0,0) _ rfl _ rfl hk5 Tryz.underlying85 rfl info_node) rfl ⟨HB1.out.grown hg5 HB1.out.size (fun k hk => by injection hk with hk; omega),.inl ⟨HFM.out,rfl⟩⟩
def zs (k : Nat) : ByteArray := str (List.replicate k 0)
theorem zs_next (k : Nat) : zs k ++ ⟨#[0]⟩ = zs (k + 1) := by
 unfold zs
 rw [show (⟨#[0]⟩ : ByteArray) = str [0] from rfl,str_append,List.replicate_succ']
theorem zs_size (k : Nat) : (zs k).size = k := by unfold zs; rw [str_size,List.length_replicate]
theorem zeros_calls (n : Int) (w : World) (h0 : -100000 ≤ n) (h1 : n ≤ 100000) : Calls Tryz.prog 129 #[.int .i64 n] w fun e w' => e = .returned (.string (zs n.toNat)) ∧ w = w' := by
 go_enter Tryz.func129,Tryz.ntmps129
 go_wp2_with fail
 go_loop [3,4] (fun s i => ∃ k : Nat,(k : Int) ≤ max n 0 ∧ i = .int .i64 k ∧ s = .string (zs k)) (fun s i => n.toNat - (intOf i).toNat)
 case atStart => exact ⟨0,by omega,rfl,rfl⟩
 case round =>
  obtain ⟨k,hk,rfl,rfl⟩ := hrel
  have HZ := hQ_ (zs_next k)
  have hz := zs_size k
  by_cases hlt : (k : Int) < n
  ·go_wp2_with fail
   rw [HZ.out]
   go_round
   case rel => exact ⟨k + 1,by omega,by go_num,rfl⟩
   case measure => simp [intOf]; omega
  ·have e : k = n.toNat := by omega
   go_wp2_with fail
   go_ret
   exact ⟨rfl,rfl⟩
theorem ext_eq (d : ByteArray) (a b : Nat) : d.extract a b = str (((txt d).drop a).take (b - a)) := by
 rw [← str_txt (d.extract a b)]
 congr 1
 unfold txt
 rw [show (d.extract a b).data = d.data.extract a b from ByteArray.data_extract,Array.toList_extract,List.extract_eq_take_drop,List.map_take,List.map_drop]
theorem read_calls {T : Nat → Prop} (h : Sh) (F : Fs) (ino a n : Int) (w : World) (hf : FsA T w h F) (hs : SmF F) (a0 : -9223372036854775808 ≤ a) (a1 : a ≤ 9223372036854775807) (n0 : -9223372036854775808 ≤ n) (n1 : n ≤ 9223372036854775807) :
 Calls Tryz.prog 81 #[.agg #[.slice h.a h.n h.c],.int .u32 ino,.int .i64 a,.int .i64 n] w fun e w' => e = .returned (.tuple #[.string (str (reaM F ino a n).1),.int .i64 (reaM F ino a n).2]) ∧ Below w.heap.size w w' := by
 obtain ⟨W,hW,HF,HB,c0⟩ := boxed hf
 have HFI := hQ_ (file_calls h F ino W HF.out hs)
 have HSF := hQ_ (fun n (hn : filM F ino = some n) => (hs.all n (fil_some hn).2.2.2).d)
 have HW := hQ_ hW
 unfold reaM
 clear hf hs hW
 cases hfm : filM F ino with
 | none =>
   dsimp only
   have HFM := hQ_ hfm
   clear hfm
   go_enter Tryz.func81,Tryz.ntmps81
   go_wp2_with fail
   rw [HW.out]
   go_wp2_with fail
   refine HFI.out.mono ?_
   rintro e w1 ⟨hb1,hway⟩
   rcases hway with ⟨_,rfl⟩ | ⟨n,he,hx,_⟩
   ·have HB1 := hQ_ (Own.keeps HB.out hb1)
    have hz := hb1.size
    have hz2 := HB.out.size
    unfold zN
    clear hb1
    go_wp2_with fail
    go_ret2
    exact ⟨rfl,HB1.out.alloc HB1.out.size _⟩
   ·rw [HFM.out] at hx; cases hx
 | some x =>
   dsimp only
   have hxd := HSF.out x hfm
   have HFM := hQ_ hfm
   obtain ⟨xi,xk,xl,xd,xe⟩ := x
   dsimp only at hxd
   have step : ∀ (Q : Ending → World → Prop),True := fun _ => trivial
   clear hfm step
   by_cases hc : a < 0 ∨ n < 0 ∨ 1024 < n
   ·rw [if_pos hc]
    by_cases c1 : a < 0
    ·have d1 : decide (a < 0) = true := by simpa using c1
     clear hc
     go_enter Tryz.func81,Tryz.ntmps81
     go_wp2_with fail
     rw [HW.out]
     go_wp2_with fail
     refine HFI.out.mono ?_
     rintro e w1 ⟨hb1,hway⟩
     rcases hway with ⟨hx,_⟩ | ⟨n2,⟨ea,em,ec⟩,hx,_,rfl⟩
     ·rw [HFM.out] at hx; cases hx
     ·rw [HFM.out] at hx
      injection hx with hx
      subst hx
      have HB1 := hQ_ (Own.keeps HB.out hb1)
      unfold nodeV
      dsimp only
      clear hb1
      go_wp2_with fail
      go_ret2
      exact ⟨rfl,HB1.out.alloc HB1.out.size _⟩
    ·have d1 : decide (a < 0) = false := by simpa using c1
     by_cases c2 : n < 0
     ·have d2 : decide (n < 0) = true := by simpa using c2
      clear hc
      go_enter Tryz.func81,Tryz.ntmps81
      go_wp2_with fail
      rw [HW.out]
      go_wp2_with fail
      refine HFI.out.mono ?_
      rintro e w1 ⟨hb1,hway⟩
      rcases hway with ⟨hx,_⟩ | ⟨n2,⟨ea,em,ec⟩,hx,_,rfl⟩
      ·rw [HFM.out] at hx; cases hx
      ·rw [HFM.out] at hx
       injection hx with hx
       subst hx
       have HB1 := hQ_ (Own.keeps HB.out hb1)
       unfold nodeV
       dsimp only
       clear hb1
       go_wp2_with fail
       go_ret2
       exact ⟨rfl,HB1.out.alloc HB1.out.size _⟩
     ·have d2 : decide (n < 0) = false := by simpa using c2
      have d3 : decide (n > 1024) = true := by simp; omega
      clear hc
      go_enter Tryz.func81,Tryz.ntmps81
      go_wp2_with fail
      rw [HW.out]
      go_wp2_with fail
      refine HFI.out.mono ?_
      rintro e w1 ⟨hb1,hway⟩
      rcases hway with ⟨hx,_⟩ | ⟨n2,⟨ea,em,ec⟩,hx,_,rfl⟩
      ·rw [HFM.out] at hx; cases hx
      ·rw [HFM.out] at hx
       injection hx with hx
       subst hx
       have HB1 := hQ_ (Own.keeps HB.out hb1)
       unfold nodeV
       dsimp only
       clear hb1
       go_wp2_with fail
       go_ret2
       exact ⟨rfl,HB1.out.alloc HB1.out.size _⟩
   ·rw [if_neg hc]
    have d1 : decide (a < 0) = false := by simp; omega
    have d2 : decide (n < 0) = false := by simp; omega
    have d3 : decide (n > 1024) = false := by simp; omega
    obtain ⟨q,rfl⟩ : ∃ q : Nat,a = q := ⟨a.toNat,by omega⟩
    obtain ⟨m,rfl⟩ : ∃ m : Nat,n = m := ⟨n.toNat,by omega⟩
    rw [Int.toNat_natCast,Int.toNat_natCast]
    by_cases hge : xd.size ≤ q
    ·have d4 : decide ((q : Int) ≥ (xd.size : Int)) = true := by simp; omega
     have HE : Hid (((txt xd).drop q).take m = []) := hQ_ (by rw [List.drop_eq_nil_of_le (by rw [txt_len]; omega),List.take_nil])
     rw [HE.out]
     clear hc
     go_enter Tryz.func81,Tryz.ntmps81
     go_wp2_with fail
     rw [HW.out]
     go_wp2_with fail
     refine HFI.out.mono ?_
     rintro e w1 ⟨hb1,hway⟩
     rcases hway with ⟨hx,_⟩ | ⟨n2,⟨ea,em,ec⟩,hx,_,rfl⟩
     ·rw [HFM.out] at hx; cases hx
     ·rw [HFM.out] at hx
      injection hx with hx
      subst hx
      have HB1 := hQ_ (Own.keeps HB.out hb1)
      unfold nodeV
      dsimp only
      have f3 : (w1.alloc (.cells #[.int .u32 xi,.int .u8 xk,.int .i64 xl,.string xd,.slice ea em ec] 85)).cell? ⟨w1.heap.size,3,none⟩ = some (.string xd) := (Blk.new_ w1 #[.int .u32 xi,.int .u8 xk,.int .i64 xl,.string xd,.slice ea em ec] 85).cell 3
      clear hb1
      go_wp2_with fail
      go_ret2
      exact ⟨rfl,HB1.out.alloc HB1.out.size _⟩
    ·have d4 : decide ((q : Int) ≥ (xd.size : Int)) = false := by simp; omega
     obtain ⟨t,ht⟩ : ∃ t : Nat,min (m : Int) ((xd.size : Int) - (q : Int)) = t := ⟨(min (m : Int) ((xd.size : Int) - (q : Int))).toNat,by omega⟩
     have e1 : wrap64 ((xd.size : Int) - (q : Int)) = (xd.size : Int) - (q : Int) := by unfold wrap64; omega
     have e2 : wrap64 ((q : Int) + (t : Int)) = (q : Int) + (t : Int) := by unfold wrap64; omega
     have HE : Hid (xd.extract q (q + t) = str (((txt xd).drop q).take m)) := hQ_ (by
      rw [ext_eq,Nat.add_sub_cancel_left]
      congr 1
      by_cases hmt : (m : Int) ≤ (xd.size : Int) - (q : Int)
      ·rw [show t = m by omega]
      ·rw [List.take_of_length_le (by rw [List.length_drop,txt_len]; omega),List.take_of_length_le (by rw [List.length_drop,txt_len]; omega)])
     have hqt : q + t ≤ xd.size := by omega
     clear hc
     go_enter Tryz.func81,Tryz.ntmps81
     go_wp2_with fail
     rw [HW.out]
     go_wp2_with fail
     refine HFI.out.mono ?_
     rintro e w1 ⟨hb1,hway⟩
     rcases hway with ⟨hx,_⟩ | ⟨n2,⟨ea,em,ec⟩,hx,_,rfl⟩
     ·rw [HFM.out] at hx; cases hx
     ·rw [HFM.out] at hx
      injection hx with hx
      subst hx
      have HB1 := hQ_ (Own.keeps HB.out hb1)
      unfold nodeV
      dsimp only
      have f3 : (w1.alloc (.cells #[.int .u32 xi,.int .u8 xk,.int .i64 xl,.string xd,.slice ea em ec] 85)).cell? ⟨w1.heap.size,3,none⟩ = some (.string xd) := (Blk.new_ w1 #[.int .u32 xi,.int .u8 xk,.int .i64 xl,.string xd,.slice ea em ec] 85).cell 3
      clear hb1
      go_wp2_with fail
      go_ret2
      refine ⟨?_,HB1.out.alloc HB1.out.size _⟩
      rw [← HE.out]
      rfl
end Go.Proofs.YtfalhnomhidkcaaGreatDoor.FileR
namespace Go.Proofs.YtfalhnomhidkcaaGreatDoor.FileRa
open Go.RowKit
open Byte KeysM TreeM Lst Ho Tx NodeG NamesM WalkF DirsM DirsW Chg DirsR DirsRa DirsRc DirsRe FileV FileO FileR
open Own hiding keeps
open ViewR (Sh)
theorem zs_txt (k : Nat) : txt (zs k) = List.replicate k 0 := txt_str _ (fun x hx => by rw [List.eq_of_mem_replicate hx]; exact ⟨by decide,by decide⟩)
theorem wr_str (d b : ByteArray) (a : Nat) (ha : a ≤ a + b.size) :
 (a + b.size < (d ++ zs (a - d.size)).size → ((d ++ zs (a - d.size)).extract 0 a ++ b) ++ (d ++ zs (a - d.size)).extract (a + b.size) (d ++ zs (a - d.size)).size = wrD d a (txt b)) ∧ (¬ a + b.size < (d ++ zs (a - d.size)).size → ((d ++ zs (a - d.size)).extract 0 a ++ b) ++ ⟨#[]⟩ = wrD d a (txt b)) := by
 have e : txt (d ++ zs (a - d.size)) = txt d ++ List.replicate (a - d.size) 0 := by rw [txt_append,zs_txt]
 constructor
 ·intro h
  refine txt_inj ?_
  rw [wrD_txt _ _ (txt_bd b),txt_append,txt_append,txt_take,txt_drop,e]
  unfold setB
  rw [txt_len,List.append_assoc]
 ·intro h
  refine txt_inj ?_
  rw [wrD_txt _ _ (txt_bd b),txt_append,txt_append,txt_take,e]
  unfold setB
  rw [txt_len,List.append_assoc]
  congr 2
  rw [List.drop_eq_nil_of_le]
  ·rfl
  ·rw [← e,txt_len]; omega
theorem tru_str (d : ByteArray) (z : Nat) : (z ≤ d.size → d.extract 0 z = truD d z) ∧ (¬ z ≤ d.size → d ++ zs (z - d.size) = truD d z) := by
 constructor
 ·intro h
  refine txt_inj ?_
  rw [truD_txt,txt_take,show z - d.size = 0 by omega,List.replicate_zero,List.append_nil]
 ·intro h
  refine txt_inj ?_
  rw [truD_txt,txt_append,zs_txt,List.take_of_length_le (by rw [List.length_append,List.length_replicate,txt_len]; omega)]
theorem write_calls {T : Nat → Prop} (h : Sh) (F : Fs) (ino a : Int) (b : ByteArray) (w : World) (hf : FsA T w h F) (hs : SmF F) (a0 : -9223372036854775808 ≤ a) (a1 : a ≤ 9223372036854775807) (hb : b.size ≤ 9223372036854775807) (hT : ∀ b,w.heap.size ≤ b → T b) :
 Calls Tryz.prog 82 #[.agg #[.slice h.a h.n h.c],.int .u32 ino,.int .i64 a,.string b] w (AnsE T (wriM F ino a (txt b)) w) := by
 obtain ⟨W,hW⟩ : ∃ W,(w.alloc (.cells #[.slice h.a h.n h.c] 29)).alloc (.cells #[.slice none 0 0] 29) = W := ⟨_,rfl⟩
 have I0 := hQ_ (InvF.start hf)
 rw [hW] at I0
 have HW := hQ_ hW
 have W_0 := cZ0 I0.out.fs
 have HFI := hQ_ (file_calls h F ino W I0.out.lies hs)
 unfold FilE at HFI
 have HT := hQ_ hT
 have HSL := hQ_ hs.len
 have HSD := fun n (hn : filM F ino = some n) => (hs.all n (fil_some hn).2.2.2).d
 unfold wriM
 rw [txt_len]
 cases hfm : filM F ino with
 | none =>
   dsimp only
   have HFS : Hid (∀ {e : Ending} {u : World},((filM F ino = none ∧ e = .returned (.tuple #[.agg zN,.int .i64 16])) ∨ ∃ n he,filM F ino = some n ∧ EntA (Out T w.heap.size (w.heap.size + 1)) u he n.ents ∧ e = .returned (.tuple #[nodeV n he,.int .i64 0])) → e = .returned (.tuple #[.agg zN,.int .i64 16])) := hQ_ (fun hw => by
    rcases hw with ⟨_,q⟩ | ⟨n,he,hx,_⟩
    ·exact q
    ·rw [hfm] at hx; cases hx)
   clear hf hs hT hW hfm HSD
   go_enter Tryz.func82,Tryz.ntmps82
   go_wp2_with fail
   rw [HW.out]
   go_wp2_with fail
   refine HFI.out.mono ?_
   rintro e w1 ⟨hb1,hway⟩
   obtain rfl := HFS.out hway
   unfold zN
   have hbn := nW_ hb1 (.cells #[.int .u32 0,.int .u8 0,.int .i64 0,.string ⟨#[]⟩,.slice none 0 0] 85)
   have I1 := hQ_ (I0.out.below hbn)
   have IB := hQ_ (I0.out.below hb1)
   have X1 := hQ_ (Blk.new_ w1 #[.int .u32 0,.int .u8 0,.int .i64 0,.string ⟨#[]⟩,.slice none 0 0] 85)
   have LA : Hid (w.heap.size + 1 < w1.heap.size) := hQ_ (by have := I0.out.lt; have := hb1.size; omega)
   have f0 := cZ0 I1.out.fs
   have r1 := cZ0 I1.out.res
   have r2 : (w1.alloc (.cells #[.int .u32 0,.int .u8 0,.int .i64 0,.string ⟨#[]⟩,.slice none 0 0] 85)).frozen? ⟨w.heap.size + 1,0,none⟩ = false := I1.out.res.frozen 0
   clear hb1 hbn hway
   go_wp2_with fail
   go_region_law (fail)
   all_goals
    obtain ⟨f1,f2,f3⟩ := I1.out.ret' I1.out.lies (.slice h.a h.n h.c)
    have HF1 := hQ_ (And.intro f1 f2)
    have HF3 := hQ_ f3
    clear f1 f2 f3
    go_wp2_with fail
    first
     | exact bodyPost_ret (v := .tuple #[.int .i64 (16),.agg #[.slice h.a h.n h.c]]) (results_tmp_row rfl _ _ (w.heap.size + 1) 29 _ (0,0) _ rfl _ rfl HF3.out Tryz.underlying29 rfl info_fs) rfl (AnsE.of rfl HF1.out)
     | exact bodyPost_ret (v := .tuple #[.int .i64 (16),.agg #[.slice h.a h.n h.c]]) (results_tmp_row rfl _ _ (w.heap.size + 1) 29 _ (0,0) _ rfl _ rfl HF3.out.drew Tryz.underlying29 rfl info_fs) rfl (AnsE.of rfl ⟨HF1.out.1.below ((Below.refl _ _).drew),HF1.out.2.drew⟩)
 | some x =>
   dsimp only
   have hxd := HSD x hfm
   have HFS : Hid (∀ {e : Ending} {u : World},((filM F ino = none ∧ e = .returned (.tuple #[.agg zN,.int .i64 16])) ∨ ∃ n he,filM F ino = some n ∧ EntA (Out T w.heap.size (w.heap.size + 1)) u he n.ents ∧ e = .returned (.tuple #[nodeV n he,.int .i64 0])) → ∃ he : Sh,EntA (Out T w.heap.size (w.heap.size + 1)) u he x.ents ∧ e = .returned (.tuple #[nodeV x he,.int .i64 0])) := hQ_ (fun hw => by
    rcases hw with ⟨hx,_⟩ | ⟨n,he,hx,q1,q2⟩
    ·rw [hfm] at hx; cases hx
    ·rw [hfm] at hx
     injection hx with hx
     subst hx
     exact ⟨he,q1,q2⟩)
   clear hf hs hT hW hfm HSD
   obtain ⟨xi,xk,xl,xd,xe⟩ := x
   dsimp only at hxd HFS ⊢
   by_cases c0 : a < 0 ∨ 1024 < b.size
   ·rw [if_pos c0]
    by_cases c1 : a < 0
    ·have d1 : decide (a < 0) = true := by simpa using c1
     clear c0
     go_enter Tryz.func82,Tryz.ntmps82
     go_wp2_with fail
     rw [HW.out]
     go_wp2_with fail
     refine HFI.out.mono ?_
     rintro e w1 ⟨hb1,hway⟩
     obtain ⟨⟨ea,em,ec⟩,hen,rfl⟩ := HFS.out hway
     have HEN := hQ_ hen
     unfold nodeV
     dsimp only
     have hbn := nW_ hb1 (.cells #[.int .u32 xi,.int .u8 xk,.int .i64 xl,.string xd,.slice ea em ec] 85)
     have I1 := hQ_ (I0.out.below hbn)
     have IB := hQ_ (I0.out.below hb1)
     have X1 := hQ_ (Blk.new_ w1 #[.int .u32 xi,.int .u8 xk,.int .i64 xl,.string xd,.slice ea em ec] 85)
     have LA : Hid (w.heap.size + 1 < w1.heap.size) := hQ_ (by have := I0.out.lt; have := hb1.size; omega)
     have f0 := cZ0 I1.out.fs
     have r1 := cZ0 I1.out.res
     have r2 : (w1.alloc (.cells #[.int .u32 xi,.int .u8 xk,.int .i64 xl,.string xd,.slice ea em ec] 85)).frozen? ⟨w.heap.size + 1,0,none⟩ = false := I1.out.res.frozen 0
     have f3 := cZ3 X1.out
     clear hb1 hbn hway hen
     go_wp2_with fail
     go_region_law (fail)
     all_goals
      obtain ⟨f1,f2,f3⟩ := I1.out.ret' I1.out.lies (.slice h.a h.n h.c)
      have HF1 := hQ_ (And.intro f1 f2)
      have HF3 := hQ_ f3
      clear f1 f2 f3
      go_wp2_with fail
      first
       | exact bodyPost_ret (v := .tuple #[.int .i64 (15),.agg #[.slice h.a h.n h.c]]) (results_tmp_row rfl _ _ (w.heap.size + 1) 29 _ (0,0) _ rfl _ rfl HF3.out Tryz.underlying29 rfl info_fs) rfl (AnsE.of rfl HF1.out)
       | exact bodyPost_ret (v := .tuple #[.int .i64 (15),.agg #[.slice h.a h.n h.c]]) (results_tmp_row rfl _ _ (w.heap.size + 1) 29 _ (0,0) _ rfl _ rfl HF3.out.drew Tryz.underlying29 rfl info_fs) rfl (AnsE.of rfl ⟨HF1.out.1.below ((Below.refl _ _).drew),HF1.out.2.drew⟩)
    ·have d1 : decide (a < 0) = false := by simpa using c1
     have d3 : decide ((b.size : Int) > 1024) = true := by simp; omega
     clear c0
     go_enter Tryz.func82,Tryz.ntmps82
     go_wp2_with fail
     rw [HW.out]
     go_wp2_with fail
     refine HFI.out.mono ?_
     rintro e w1 ⟨hb1,hway⟩
     obtain ⟨⟨ea,em,ec⟩,hen,rfl⟩ := HFS.out hway
     have HEN := hQ_ hen
     unfold nodeV
     dsimp only
     have hbn := nW_ hb1 (.cells #[.int .u32 xi,.int .u8 xk,.int .i64 xl,.string xd,.slice ea em ec] 85)
     have I1 := hQ_ (I0.out.below hbn)
     have IB := hQ_ (I0.out.below hb1)
     have X1 := hQ_ (Blk.new_ w1 #[.int .u32 xi,.int .u8 xk,.int .i64 xl,.string xd,.slice ea em ec] 85)
     have LA : Hid (w.heap.size + 1 < w1.heap.size) := hQ_ (by have := I0.out.lt; have := hb1.size; omega)
     have f0 := cZ0 I1.out.fs
     have r1 := cZ0 I1.out.res
     have r2 : (w1.alloc (.cells #[.int .u32 xi,.int .u8 xk,.int .i64 xl,.string xd,.slice ea em ec] 85)).frozen? ⟨w.heap.size + 1,0,none⟩ = false := I1.out.res.frozen 0
     have f3 := cZ3 X1.out
     clear hb1 hbn hway hen
     go_wp2_with fail
     go_region_law (fail)
     all_goals
      obtain ⟨f1,f2,f3⟩ := I1.out.ret' I1.out.lies (.slice h.a h.n h.c)
      have HF1 := hQ_ (And.intro f1 f2)
      have HF3 := hQ_ f3
      clear f1 f2 f3
      go_wp2_with fail
      first
       | exact bodyPost_ret (v := .tuple #[.int .i64 (15),.agg #[.slice h.a h.n h.c]]) (results_tmp_row rfl _ _ (w.heap.size + 1) 29 _ (0,0) _ rfl _ rfl HF3.out Tryz.underlying29 rfl info_fs) rfl (AnsE.of rfl HF1.out)
       | exact bodyPost_ret (v := .tuple #[.int .i64 (15),.agg #[.slice h.a h.n h.c]]) (results_tmp_row rfl _ _ (w.heap.size + 1) 29 _ (0,0) _ rfl _ rfl HF3.out.drew Tryz.underlying29 rfl info_fs) rfl (AnsE.of rfl ⟨HF1.out.1.below ((Below.refl _ _).drew),HF1.out.2.drew⟩)
   rw [if_neg c0]
   have d1 : decide (a < 0) = false := by simp; omega
   have d3 : decide ((b.size : Int) > 1024) = false := by simp; omega
   by_cases c4 : 4096 - (b.size : Int) < a
   ·rw [if_pos c4]
    by_cases c5 : 4096 < a
    ·have d4 : decide (a > 4096) = true := by simpa using c5
     clear c0
     go_enter Tryz.func82,Tryz.ntmps82
     go_wp2_with fail
     rw [HW.out]
     go_wp2_with fail
     refine HFI.out.mono ?_
     rintro e w1 ⟨hb1,hway⟩
     obtain ⟨⟨ea,em,ec⟩,hen,rfl⟩ := HFS.out hway
     have HEN := hQ_ hen
     unfold nodeV
     dsimp only
     have hbn := nW_ hb1 (.cells #[.int .u32 xi,.int .u8 xk,.int .i64 xl,.string xd,.slice ea em ec] 85)
     have I1 := hQ_ (I0.out.below hbn)
     have IB := hQ_ (I0.out.below hb1)
     have X1 := hQ_ (Blk.new_ w1 #[.int .u32 xi,.int .u8 xk,.int .i64 xl,.string xd,.slice ea em ec] 85)
     have LA : Hid (w.heap.size + 1 < w1.heap.size) := hQ_ (by have := I0.out.lt; have := hb1.size; omega)
     have f0 := cZ0 I1.out.fs
     have r1 := cZ0 I1.out.res
     have r2 : (w1.alloc (.cells #[.int .u32 xi,.int .u8 xk,.int .i64 xl,.string xd,.slice ea em ec] 85)).frozen? ⟨w.heap.size + 1,0,none⟩ = false := I1.out.res.frozen 0
     have f3 := cZ3 X1.out
     clear hb1 hbn hway hen
     go_wp2_with fail
     go_region_law (fail)
     all_goals
      obtain ⟨f1,f2,f3⟩ := I1.out.ret' I1.out.lies (.slice h.a h.n h.c)
      have HF1 := hQ_ (And.intro f1 f2)
      have HF3 := hQ_ f3
      clear f1 f2 f3
      go_wp2_with fail
      first
       | exact bodyPost_ret (v := .tuple #[.int .i64 (19),.agg #[.slice h.a h.n h.c]]) (results_tmp_row rfl _ _ (w.heap.size + 1) 29 _ (0,0) _ rfl _ rfl HF3.out Tryz.underlying29 rfl info_fs) rfl (AnsE.of rfl HF1.out)
       | exact bodyPost_ret (v := .tuple #[.int .i64 (19),.agg #[.slice h.a h.n h.c]]) (results_tmp_row rfl _ _ (w.heap.size + 1) 29 _ (0,0) _ rfl _ rfl HF3.out.drew Tryz.underlying29 rfl info_fs) rfl (AnsE.of rfl ⟨HF1.out.1.below ((Below.refl _ _).drew),HF1.out.2.drew⟩)
    ·have d4 : decide (a > 4096) = false := by simpa using c5
     have e1 : wrap64 (a + (b.size : Int)) = a + (b.size : Int) := by unfold wrap64; omega
     have d5 : decide (a + (b.size : Int) > 4096) = true := by simp; omega
     clear c0
     go_enter Tryz.func82,Tryz.ntmps82
     go_wp2_with fail
     rw [HW.out]
     go_wp2_with fail
     refine HFI.out.mono ?_
     rintro e w1 ⟨hb1,hway⟩
     obtain ⟨⟨ea,em,ec⟩,hen,rfl⟩ := HFS.out hway
     have HEN := hQ_ hen
     unfold nodeV
     dsimp only
     have hbn := nW_ hb1 (.cells #[.int .u32 xi,.int .u8 xk,.int .i64 xl,.string xd,.slice ea em ec] 85)
     have I1 := hQ_ (I0.out.below hbn)
     have IB := hQ_ (I0.out.below hb1)
     have X1 := hQ_ (Blk.new_ w1 #[.int .u32 xi,.int .u8 xk,.int .i64 xl,.string xd,.slice ea em ec] 85)
     have LA : Hid (w.heap.size + 1 < w1.heap.size) := hQ_ (by have := I0.out.lt; have := hb1.size; omega)
     have f0 := cZ0 I1.out.fs
     have r1 := cZ0 I1.out.res
     have r2 : (w1.alloc (.cells #[.int .u32 xi,.int .u8 xk,.int .i64 xl,.string xd,.slice ea em ec] 85)).frozen? ⟨w.heap.size + 1,0,none⟩ = false := I1.out.res.frozen 0
     have f3 := cZ3 X1.out
     clear hb1 hbn hway hen
     go_wp2_with fail
     go_region_law (fail)
     all_goals
      obtain ⟨f1,f2,f3⟩ := I1.out.ret' I1.out.lies (.slice h.a h.n h.c)
      have HF1 := hQ_ (And.intro f1 f2)
      have HF3 := hQ_ f3
      clear f1 f2 f3
      go_wp2_with fail
      first
       | exact bodyPost_ret (v := .tuple #[.int .i64 (19),.agg #[.slice h.a h.n h.c]]) (results_tmp_row rfl _ _ (w.heap.size + 1) 29 _ (0,0) _ rfl _ rfl HF3.out Tryz.underlying29 rfl info_fs) rfl (AnsE.of rfl HF1.out)
       | exact bodyPost_ret (v := .tuple #[.int .i64 (19),.agg #[.slice h.a h.n h.c]]) (results_tmp_row rfl _ _ (w.heap.size + 1) 29 _ (0,0) _ rfl _ rfl HF3.out.drew Tryz.underlying29 rfl info_fs) rfl (AnsE.of rfl ⟨HF1.out.1.below ((Below.refl _ _).drew),HF1.out.2.drew⟩)
   rw [if_neg c4]
   have d4 : decide (a > 4096) = false := by simp; omega
   have e1 : wrap64 (a + (b.size : Int)) = a + (b.size : Int) := by unfold wrap64; omega
   have d5 : decide (a + (b.size : Int) > 4096) = false := by simp; omega
   by_cases c6 : b.size = 0
   ·rw [if_pos c6]
    have d6 : ((b.size : Int) == 0) = true := by rw [beq_iff_eq]; omega
    clear c0
    go_enter Tryz.func82,Tryz.ntmps82
    go_wp2_with fail
    rw [HW.out]
    go_wp2_with fail
    refine HFI.out.mono ?_
    rintro e w1 ⟨hb1,hway⟩
    obtain ⟨⟨ea,em,ec⟩,hen,rfl⟩ := HFS.out hway
    have HEN := hQ_ hen
    unfold nodeV
    dsimp only
    have hbn := nW_ hb1 (.cells #[.int .u32 xi,.int .u8 xk,.int .i64 xl,.string xd,.slice ea em ec] 85)
    have I1 := hQ_ (I0.out.below hbn)
    have IB := hQ_ (I0.out.below hb1)
    have X1 := hQ_ (Blk.new_ w1 #[.int .u32 xi,.int .u8 xk,.int .i64 xl,.string xd,.slice ea em ec] 85)
    have LA : Hid (w.heap.size + 1 < w1.heap.size) := hQ_ (by have := I0.out.lt; have := hb1.size; omega)
    have f0 := cZ0 I1.out.fs
    have r1 := cZ0 I1.out.res
    have r2 : (w1.alloc (.cells #[.int .u32 xi,.int .u8 xk,.int .i64 xl,.string xd,.slice ea em ec] 85)).frozen? ⟨w.heap.size + 1,0,none⟩ = false := I1.out.res.frozen 0
    have f3 := cZ3 X1.out
    clear hb1 hbn hway hen
    go_wp2_with fail
    go_region_law (fail)
    all_goals
     obtain ⟨f1,f2,f3⟩ := I1.out.ret' I1.out.lies (.slice h.a h.n h.c)
     have HF1 := hQ_ (And.intro f1 f2)
     have HF3 := hQ_ f3
     clear f1 f2 f3
     go_wp2_with fail
     first
      | exact bodyPost_ret (v := .tuple #[.int .i64 (0),.agg #[.slice h.a h.n h.c]]) (results_tmp_row rfl _ _ (w.heap.size + 1) 29 _ (0,0) _ rfl _ rfl HF3.out Tryz.underlying29 rfl info_fs) rfl (AnsE.of rfl HF1.out)
      | exact bodyPost_ret (v := .tuple #[.int .i64 (0),.agg #[.slice h.a h.n h.c]]) (results_tmp_row rfl _ _ (w.heap.size + 1) 29 _ (0,0) _ rfl _ rfl HF3.out.drew Tryz.underlying29 rfl info_fs) rfl (AnsE.of rfl ⟨HF1.out.1.below ((Below.refl _ _).drew),HF1.out.2.drew⟩)
   rw [if_neg c6]
   have d6 : ((b.size : Int) == 0) = false := by rw [beq_eq_false_iff_ne]; omega
   obtain ⟨p,rfl⟩ : ∃ p : Nat,a = p := ⟨a.toNat,by omega⟩
   rw [Int.toNat_natCast]
   have e2 : wrap64 ((p : Int) - (xd.size : Int)) = (p : Int) - (xd.size : Int) := by unfold wrap64; omega
   have HZ := hQ_ (fun u => (zeros_calls (max 0 ((p : Int) - (xd.size : Int))) u (by omega) (by omega)).mono (R' := fun e w' => e = .returned (.string (zs (max 0 ((p : Int) - (xd.size : Int))).toNat)) ∧ w' = u) fun e w' ⟨q1,q2⟩ => ⟨q1,q2.symm⟩)
   rw [show (max 0 ((p : Int) - (xd.size : Int))).toNat = p - xd.size by omega] at HZ
   have hws := wr_str xd b p (by omega)
   have hzz := zs_size (p - xd.size)
   have hD0s : (xd ++ zs (p - xd.size)).size = xd.size + (p - xd.size) := by rw [ByteArray.size_append,hzz]
   obtain ⟨D0,hD0⟩ : ∃ D0,xd ++ zs (p - xd.size) = D0 := ⟨_,rfl⟩
   rw [hD0] at hws hD0s
   have HD0 := hQ_ hD0
   have hsz : xd.size + (zs (p - xd.size)).size ≤ 300000 := by rw [hzz]; omega
   have hpD : p ≤ D0.size := by omega
   have hpB : D0.size ≤ 300000 := by omega
   have hbz : b.size ≤ 1024 := by omega
   generalize zs (p - xd.size) = ZZ at *
   clear c0 hD0 hD0s hzz
   by_cases ht : p + b.size < D0.size
   ·have HDE := hQ_ (hws.1 ht)
    have d7 : decide ((p : Int) + (b.size : Int) < (D0.size : Int)) = true := by simp; omega
    obtain ⟨DD,hDD⟩ : ∃ DD,D0.extract 0 p ++ b ++ D0.extract (p + b.size) D0.size = DD := ⟨_,rfl⟩
    have HDN := hQ_ hDD
    have HDD := hQ_ (hDD.symm.trans HDE.out)
    have hs1 : (D0.extract 0 p).size ≤ 300000 := by rw [ByteArray.size_extract]; omega
    have hs2 : (D0.extract (p + b.size) D0.size).size ≤ 300000 := by rw [ByteArray.size_extract]; omega
    clear hws hDD
    go_enter Tryz.func82,Tryz.ntmps82
    go_wp2_with fail
    rw [HW.out]
    go_wp2_with fail
    refine HFI.out.mono ?_
    rintro e w1 ⟨hb1,hway⟩
    obtain ⟨⟨ea,em,ec⟩,hen,rfl⟩ := HFS.out hway
    have HEN := hQ_ hen
    unfold nodeV
    dsimp only
    have hbn := nW_ hb1 (.cells #[.int .u32 xi,.int .u8 xk,.int .i64 xl,.string xd,.slice ea em ec] 85)
    have I1 := hQ_ (I0.out.below hbn)
    have IB := hQ_ (I0.out.below hb1)
    have X1 := hQ_ (Blk.new_ w1 #[.int .u32 xi,.int .u8 xk,.int .i64 xl,.string xd,.slice ea em ec] 85)
    have LA : Hid (w.heap.size + 1 < w1.heap.size) := hQ_ (by have := I0.out.lt; have := hb1.size; omega)
    have f0 := cZ0 I1.out.fs
    have r1 := cZ0 I1.out.res
    have r2 : (w1.alloc (.cells #[.int .u32 xi,.int .u8 xk,.int .i64 xl,.string xd,.slice ea em ec] 85)).frozen? ⟨w.heap.size + 1,0,none⟩ = false := I1.out.res.frozen 0
    have f3 := cZ3 X1.out
    clear hb1 hbn hway hen
    have BW : Hid (∀ n v,Below w1.heap.size w1 (((w1.alloc (.cells #[.int .u32 xi,.int .u8 xk,.int .i64 xl,.string xd,.slice ea em ec] 85)).drewN n).setCell ⟨w1.heap.size,3,none⟩ v)) := hQ_ (fun n v => (NamesS.below_drewN (bW_) n).setCell (p := ⟨w1.heap.size,3,none⟩) (Nat.le_refl _) v)
    go_upto_region 10 with (fail)
    go_quiet (first | (go_at_call 129; exact Calls.quiet_of_same (HZ.out _)))
    rw [HD0.out]
    go_wp2_with fail
    rw [HDN.out]
    refine (with_calls h F ⟨xi,xk,xl,DD,xe⟩ ⟨ea,em,ec⟩ _ (IB.out.below (BW.out _ _)).lies (HEN.out.below (BW.out _ _)) HSL.out ((IB.out.below (BW.out _ _)).room HT.out)).mono ?_
    rintro e w4 ⟨h4,rfl,hf4,hb4⟩
    have I4 := hQ_ ((IB.out.below (BW.out _ _)).below hb4)
    have L4 := hQ_ hf4
    clear hf4 hb4
    go_wp2_with ((with_reducible refine pick none ?_); refine store_blk rfl 29 _ _ rfl (w.heap.size + 1) #[.slice h4.a h4.n h4.c] rfl rfl 29 _ I4.out.res info_fs rfl (by simp [Value.oneCell']) ?_; intro w5 hk5 hg5)
    exact bodyPost_ret (v := .tuple #[.int .i64 0,.agg #[.slice h4.a h4.n h4.c]]) (results_tmp_row rfl _ _ (w.heap.size + 1) 29 _ (0,0) _ rfl _ rfl hk5 Tryz.underlying29 rfl info_fs) rfl (AnsE.of (by rw [HDD.out]) (I4.out.ret L4.out hg5))
   ·have HDE := hQ_ (hws.2 ht)
    have d7 : decide ((p : Int) + (b.size : Int) < (D0.size : Int)) = false := by simp; omega
    obtain ⟨DD,hDD⟩ : ∃ DD,D0.extract 0 p ++ b ++ ⟨#[]⟩ = DD := ⟨_,rfl⟩
    have HDN := hQ_ hDD
    have HDD := hQ_ (hDD.symm.trans HDE.out)
    have hs1 : (D0.extract 0 p).size ≤ 300000 := by rw [ByteArray.size_extract]; omega
    clear hws hDD
    go_enter Tryz.func82,Tryz.ntmps82
    go_wp2_with fail
    rw [HW.out]
    go_wp2_with fail
    refine HFI.out.mono ?_
    rintro e w1 ⟨hb1,hway⟩
    obtain ⟨⟨ea,em,ec⟩,hen,rfl⟩ := HFS.out hway
    have HEN := hQ_ hen
    unfold nodeV
    dsimp only
    have hbn := nW_ hb1 (.cells #[.int .u32 xi,.int .u8 xk,.int .i64 xl,.string xd,.slice ea em ec] 85)
    have I1 := hQ_ (I0.out.below hbn)
    have IB := hQ_ (I0.out.below hb1)
    have X1 := hQ_ (Blk.new_ w1 #[.int .u32 xi,.int .u8 xk,.int .i64 xl,.string xd,.slice ea em ec] 85)
    have LA : Hid (w.heap.size + 1 < w1.heap.size) := hQ_ (by have := I0.out.lt; have := hb1.size; omega)
    have f0 := cZ0 I1.out.fs
    have r1 := cZ0 I1.out.res
    have r2 : (w1.alloc (.cells #[.int .u32 xi,.int .u8 xk,.int .i64 xl,.string xd,.slice ea em ec] 85)).frozen? ⟨w.heap.size + 1,0,none⟩ = false := I1.out.res.frozen 0
    have f3 := cZ3 X1.out
    clear hb1 hbn hway hen
    have BW : Hid (∀ n v,Below w1.heap.size w1 (((w1.alloc (.cells #[.int .u32 xi,.int .u8 xk,.int .i64 xl,.string xd,.slice ea em ec] 85)).drewN n).setCell ⟨w1.heap.size,3,none⟩ v)) := hQ_ (fun n v => (NamesS.below_drewN (bW_) n).setCell (p := ⟨w1.heap.size,3,none⟩) (Nat.le_refl _) v)
    go_upto_region 10 with (fail)
    go_quiet (first | (go_at_call 129; exact Calls.quiet_of_same (HZ.out _)))
    rw [HD0.out]
    go_wp2_with fail
    rw [HDN.out]
    refine (with_calls h F ⟨xi,xk,xl,DD,xe⟩ ⟨ea,em,ec⟩ _ (IB.out.below (BW.out _ _)).lies (HEN.out.below (BW.out _ _)) HSL.out ((IB.out.below (BW.out _ _)).room HT.out)).mono ?_
    rintro e w4 ⟨h4,rfl,hf4,hb4⟩
    have I4 := hQ_ ((IB.out.below (BW.out _ _)).below hb4)
    have L4 := hQ_ hf4
    clear hf4 hb4
    go_wp2_with ((with_reducible refine pick none ?_); refine store_blk rfl 29 _ _ rfl (w.heap.size + 1) #[.slice h4.a h4.n h4.c] rfl rfl 29 _ I4.out.res info_fs rfl (by simp [Value.oneCell']) ?_; intro w5 hk5 hg5)
    exact bodyPost_ret (v := .tuple #[.int .i64 0,.agg #[.slice h4.a h4.n h4.c]]) (results_tmp_row rfl _ _ (w.heap.size + 1) 29 _ (0,0) _ rfl _ rfl hk5 Tryz.underlying29 rfl info_fs) rfl (AnsE.of (by rw [HDD.out]) (I4.out.ret L4.out hg5))
theorem truncate_calls {T : Nat → Prop} (h : Sh) (F : Fs) (ino z : Int) (w : World) (hf : FsA T w h F) (hs : SmF F) (z0 : -9223372036854775808 ≤ z) (z1 : z ≤ 9223372036854775807) (hT : ∀ b,w.heap.size ≤ b → T b) :
 Calls Tryz.prog 83 #[.agg #[.slice h.a h.n h.c],.int .u32 ino,.int .i64 z] w (AnsE T (truM F ino z) w) := by
 obtain ⟨W,hW⟩ : ∃ W,(w.alloc (.cells #[.slice h.a h.n h.c] 29)).alloc (.cells #[.slice none 0 0] 29) = W := ⟨_,rfl⟩
 have I0 := hQ_ (InvF.start hf)
 rw [hW] at I0
 have HW := hQ_ hW
 have W_0 := cZ0 I0.out.fs
 have HFI := hQ_ (file_calls h F ino W I0.out.lies hs)
 unfold FilE at HFI
 have HT := hQ_ hT
 have HSL := hQ_ hs.len
 have HSD := fun n (hn : filM F ino = some n) => (hs.all n (fil_some hn).2.2.2).d
 unfold truM
 cases hfm : filM F ino with
 | none =>
   dsimp only
   have HFS : Hid (∀ {e : Ending} {u : World},((filM F ino = none ∧ e = .returned (.tuple #[.agg zN,.int .i64 16])) ∨ ∃ n he,filM F ino = some n ∧ EntA (Out T w.heap.size (w.heap.size + 1)) u he n.ents ∧ e = .returned (.tuple #[nodeV n he,.int .i64 0])) → e = .returned (.tuple #[.agg zN,.int .i64 16])) := hQ_ (fun hw => by
    rcases hw with ⟨_,q⟩ | ⟨n,he,hx,_⟩
    ·exact q
    ·rw [hfm] at hx; cases hx)
   clear hf hs hT hW hfm HSD
   go_enter Tryz.func83,Tryz.ntmps83
   go_wp2_with fail
   rw [HW.out]
   go_wp2_with fail
   refine HFI.out.mono ?_
   rintro e w1 ⟨hb1,hway⟩
   obtain rfl := HFS.out hway
   unfold zN
   have hbn := nW_ hb1 (.cells #[.int .u32 0,.int .u8 0,.int .i64 0,.string ⟨#[]⟩,.slice none 0 0] 85)
   have I1 := hQ_ (I0.out.below hbn)
   have IB := hQ_ (I0.out.below hb1)
   have X1 := hQ_ (Blk.new_ w1 #[.int .u32 0,.int .u8 0,.int .i64 0,.string ⟨#[]⟩,.slice none 0 0] 85)
   have LA : Hid (w.heap.size + 1 < w1.heap.size) := hQ_ (by have := I0.out.lt; have := hb1.size; omega)
   have f0 := cZ0 I1.out.fs
   have r1 := cZ0 I1.out.res
   have r2 : (w1.alloc (.cells #[.int .u32 0,.int .u8 0,.int .i64 0,.string ⟨#[]⟩,.slice none 0 0] 85)).frozen? ⟨w.heap.size + 1,0,none⟩ = false := I1.out.res.frozen 0
   clear hb1 hbn hway
   go_wp2_with fail
   go_region_law (fail)
   all_goals
    obtain ⟨f1,f2,f3⟩ := I1.out.ret' I1.out.lies (.slice h.a h.n h.c)
    have HF1 := hQ_ (And.intro f1 f2)
    have HF3 := hQ_ f3
    clear f1 f2 f3
    go_wp2_with fail
    first
     | exact bodyPost_ret (v := .tuple #[.int .i64 (16),.agg #[.slice h.a h.n h.c]]) (results_tmp_row rfl _ _ (w.heap.size + 1) 29 _ (0,0) _ rfl _ rfl HF3.out Tryz.underlying29 rfl info_fs) rfl (AnsE.of rfl HF1.out)
     | exact bodyPost_ret (v := .tuple #[.int .i64 (16),.agg #[.slice h.a h.n h.c]]) (results_tmp_row rfl _ _ (w.heap.size + 1) 29 _ (0,0) _ rfl _ rfl HF3.out.drew Tryz.underlying29 rfl info_fs) rfl (AnsE.of rfl ⟨HF1.out.1.below ((Below.refl _ _).drew),HF1.out.2.drew⟩)
 | some x =>
   dsimp only
   have hxd := HSD x hfm
   have HFS : Hid (∀ {e : Ending} {u : World},((filM F ino = none ∧ e = .returned (.tuple #[.agg zN,.int .i64 16])) ∨ ∃ n he,filM F ino = some n ∧ EntA (Out T w.heap.size (w.heap.size + 1)) u he n.ents ∧ e = .returned (.tuple #[nodeV n he,.int .i64 0])) → ∃ he : Sh,EntA (Out T w.heap.size (w.heap.size + 1)) u he x.ents ∧ e = .returned (.tuple #[nodeV x he,.int .i64 0])) := hQ_ (fun hw => by
    rcases hw with ⟨hx,_⟩ | ⟨n,he,hx,q1,q2⟩
    ·rw [hfm] at hx; cases hx
    ·rw [hfm] at hx
     injection hx with hx
     subst hx
     exact ⟨he,q1,q2⟩)
   clear hf hs hT hW hfm HSD
   obtain ⟨xi,xk,xl,xd,xe⟩ := x
   dsimp only at hxd HFS ⊢
   by_cases c1 : z < 0
   ·rw [if_pos c1]
    have d1 : decide (z < 0) = true := by simpa using c1
    go_enter Tryz.func83,Tryz.ntmps83
    go_wp2_with fail
    rw [HW.out]
    go_wp2_with fail
    refine HFI.out.mono ?_
    rintro e w1 ⟨hb1,hway⟩
    obtain ⟨⟨ea,em,ec⟩,hen,rfl⟩ := HFS.out hway
    have HEN := hQ_ hen
    unfold nodeV
    dsimp only
    have hbn := nW_ hb1 (.cells #[.int .u32 xi,.int .u8 xk,.int .i64 xl,.string xd,.slice ea em ec] 85)
    have I1 := hQ_ (I0.out.below hbn)
    have IB := hQ_ (I0.out.below hb1)
    have X1 := hQ_ (Blk.new_ w1 #[.int .u32 xi,.int .u8 xk,.int .i64 xl,.string xd,.slice ea em ec] 85)
    have LA : Hid (w.heap.size + 1 < w1.heap.size) := hQ_ (by have := I0.out.lt; have := hb1.size; omega)
    have f0 := cZ0 I1.out.fs
    have r1 := cZ0 I1.out.res
    have r2 : (w1.alloc (.cells #[.int .u32 xi,.int .u8 xk,.int .i64 xl,.string xd,.slice ea em ec] 85)).frozen? ⟨w.heap.size + 1,0,none⟩ = false := I1.out.res.frozen 0
    have f3 := cZ3 X1.out
    clear hb1 hbn hway hen
    go_wp2_with fail
    go_region_law (fail)
    all_goals
     obtain ⟨f1,f2,f3⟩ := I1.out.ret' I1.out.lies (.slice h.a h.n h.c)
     have HF1 := hQ_ (And.intro f1 f2)
     have HF3 := hQ_ f3
     clear f1 f2 f3
     go_wp2_with fail
     first
      | exact bodyPost_ret (v := .tuple #[.int .i64 (15),.agg #[.slice h.a h.n h.c]]) (results_tmp_row rfl _ _ (w.heap.size + 1) 29 _ (0,0) _ rfl _ rfl HF3.out Tryz.underlying29 rfl info_fs) rfl (AnsE.of rfl HF1.out)
      | exact bodyPost_ret (v := .tuple #[.int .i64 (15),.agg #[.slice h.a h.n h.c]]) (results_tmp_row rfl _ _ (w.heap.size + 1) 29 _ (0,0) _ rfl _ rfl HF3.out.drew Tryz.underlying29 rfl info_fs) rfl (AnsE.of rfl ⟨HF1.out.1.below ((Below.refl _ _).drew),HF1.out.2.drew⟩)
   rw [if_neg c1]
   have d1 : decide (z < 0) = false := by simpa using c1
   by_cases c2 : 4096 < z
   ·rw [if_pos c2]
    have d2 : decide (z > 4096) = true := by simpa using c2
    go_enter Tryz.func83,Tryz.ntmps83
    go_wp2_with fail
    rw [HW.out]
    go_wp2_with fail
    refine HFI.out.mono ?_
    rintro e w1 ⟨hb1,hway⟩
    obtain ⟨⟨ea,em,ec⟩,hen,rfl⟩ := HFS.out hway
    have HEN := hQ_ hen
    unfold nodeV
    dsimp only
    have hbn := nW_ hb1 (.cells #[.int .u32 xi,.int .u8 xk,.int .i64 xl,.string xd,.slice ea em ec] 85)
    have I1 := hQ_ (I0.out.below hbn)
    have IB := hQ_ (I0.out.below hb1)
    have X1 := hQ_ (Blk.new_ w1 #[.int .u32 xi,.int .u8 xk,.int .i64 xl,.string xd,.slice ea em ec] 85)
    have LA : Hid (w.heap.size + 1 < w1.heap.size) := hQ_ (by have := I0.out.lt; have := hb1.size; omega)
    have f0 := cZ0 I1.out.fs
    have r1 := cZ0 I1.out.res
    have r2 : (w1.alloc (.cells #[.int .u32 xi,.int .u8 xk,.int .i64 xl,.string xd,.slice ea em ec] 85)).frozen? ⟨w.heap.size + 1,0,none⟩ = false := I1.out.res.frozen 0
    have f3 := cZ3 X1.out
    clear hb1 hbn hway hen
    go_wp2_with fail
    go_region_law (fail)
    all_goals
     obtain ⟨f1,f2,f3⟩ := I1.out.ret' I1.out.lies (.slice h.a h.n h.c)
     have HF1 := hQ_ (And.intro f1 f2)
     have HF3 := hQ_ f3
     clear f1 f2 f3
     go_wp2_with fail
     first
      | exact bodyPost_ret (v := .tuple #[.int .i64 (19),.agg #[.slice h.a h.n h.c]]) (results_tmp_row rfl _ _ (w.heap.size + 1) 29 _ (0,0) _ rfl _ rfl HF3.out Tryz.underlying29 rfl info_fs) rfl (AnsE.of rfl HF1.out)
      | exact bodyPost_ret (v := .tuple #[.int .i64 (19),.agg #[.slice h.a h.n h.c]]) (results_tmp_row rfl _ _ (w.heap.size + 1) 29 _ (0,0) _ rfl _ rfl HF3.out.drew Tryz.underlying29 rfl info_fs) rfl (AnsE.of rfl ⟨HF1.out.1.below ((Below.refl _ _).drew),HF1.out.2.drew⟩)
   rw [if_neg c2]
   have d2 : decide (z > 4096) = false := by simpa using c2
   obtain ⟨p,rfl⟩ : ∃ p : Nat,z = p := ⟨z.toNat,by omega⟩
   rw [Int.toNat_natCast]
   have hts := tru_str xd p
   by_cases c3 : p ≤ xd.size
   ·have d3 : decide ((p : Int) ≤ (xd.size : Int)) = true := by simp; omega
    have HDE := hQ_ (hts.1 c3)
    obtain ⟨DD,hDD⟩ : ∃ DD,xd.extract 0 p = DD := ⟨_,rfl⟩
    have HDN := hQ_ hDD
    have HDD := hQ_ (hDD.symm.trans HDE.out)
    clear hts hDD
    go_enter Tryz.func83,Tryz.ntmps83
    go_wp2_with fail
    rw [HW.out]
    go_wp2_with fail
    refine HFI.out.mono ?_
    rintro e w1 ⟨hb1,hway⟩
    obtain ⟨⟨ea,em,ec⟩,hen,rfl⟩ := HFS.out hway
    have HEN := hQ_ hen
    unfold nodeV
    dsimp only
    have hbn := nW_ hb1 (.cells #[.int .u32 xi,.int .u8 xk,.int .i64 xl,.string xd,.slice ea em ec] 85)
    have I1 := hQ_ (I0.out.below hbn)
    have IB := hQ_ (I0.out.below hb1)
    have X1 := hQ_ (Blk.new_ w1 #[.int .u32 xi,.int .u8 xk,.int .i64 xl,.string xd,.slice ea em ec] 85)
    have LA : Hid (w.heap.size + 1 < w1.heap.size) := hQ_ (by have := I0.out.lt; have := hb1.size; omega)
    have f0 := cZ0 I1.out.fs
    have r1 := cZ0 I1.out.res
    have r2 : (w1.alloc (.cells #[.int .u32 xi,.int .u8 xk,.int .i64 xl,.string xd,.slice ea em ec] 85)).frozen? ⟨w.heap.size + 1,0,none⟩ = false := I1.out.res.frozen 0
    have f3 := cZ3 X1.out
    clear hb1 hbn hway hen
    have f0b : (w1.alloc (.cells #[.int .u32 xi,.int .u8 xk,.int .i64 xl,.string (xd.extract 0 p),.slice ea em ec] 85)).cell? ⟨w.heap.size,0,none⟩ = some (.slice h.a h.n h.c) := (IB.out.below (bW_)).fs.cell 0
    go_wp2_with fail
    rw [HDN.out]
    refine (with_calls h F ⟨xi,xk,xl,DD,xe⟩ ⟨ea,em,ec⟩ _ (IB.out.below (bW_)).lies (HEN.out.below (bW_)) HSL.out ((IB.out.below (bW_)).room HT.out)).mono ?_
    rintro e w4 ⟨h4,rfl,hf4,hb4⟩
    have I4 := hQ_ ((IB.out.below (bW_)).below hb4)
    have L4 := hQ_ hf4
    clear hf4 hb4
    go_wp2_with ((with_reducible refine pick none ?_); refine store_blk rfl 29 _ _ rfl (w.heap.size + 1) #[.slice h4.a h4.n h4.c] rfl rfl 29 _ I4.out.res info_fs rfl (by simp [Value.oneCell']) ?_; intro w5 hk5 hg5)
    exact bodyPost_ret (v := .tuple #[.int .i64 0,.agg #[.slice h4.a h4.n h4.c]]) (results_tmp_row rfl _ _ (w.heap.size + 1) 29 _ (0,0) _ rfl _ rfl hk5 Tryz.underlying29 rfl info_fs) rfl (AnsE.of (by rw [HDD.out]) (I4.out.ret L4.out hg5))
   ·have d3 : decide ((p : Int) ≤ (xd.size : Int)) = false := by simp; omega
    have e2 : wrap64 ((p : Int) - (xd.size : Int)) = (p : Int) - (xd.size : Int) := by unfold wrap64; omega
    have HZ := hQ_ (fun u => zeros_calls ((p : Int) - (xd.size : Int)) u (by omega) (by omega))
    rw [show ((p : Int) - (xd.size : Int)).toNat = p - xd.size by omega] at HZ
    have e3 : IntKind.i64.wrap ((p : Int) - (xd.size : Int)) = (p : Int) - (xd.size : Int) := IntWalk.i64_in _ (by omega)
    have HDE := hQ_ (hts.2 c3)
    have hzz := zs_size (p - xd.size)
    have hsz : xd.size + (zs (p - xd.size)).size ≤ 300000 := by rw [hzz]; omega
    generalize zs (p - xd.size) = ZZ at *
    obtain ⟨DD,hDD⟩ : ∃ DD,xd ++ ZZ = DD := ⟨_,rfl⟩
    have HDN := hQ_ hDD
    have HDD := hQ_ (hDD.symm.trans HDE.out)
    clear hts hDD hzz
    go_enter Tryz.func83,Tryz.ntmps83
    go_wp2_with fail
    rw [HW.out]
    go_wp2_with fail
    refine HFI.out.mono ?_
    rintro e w1 ⟨hb1,hway⟩
    obtain ⟨⟨ea,em,ec⟩,hen,rfl⟩ := HFS.out hway
    have HEN := hQ_ hen
    unfold nodeV
    dsimp only
    have hbn := nW_ hb1 (.cells #[.int .u32 xi,.int .u8 xk,.int .i64 xl,.string xd,.slice ea em ec] 85)
    have I1 := hQ_ (I0.out.below hbn)
    have IB := hQ_ (I0.out.below hb1)
    have X1 := hQ_ (Blk.new_ w1 #[.int .u32 xi,.int .u8 xk,.int .i64 xl,.string xd,.slice ea em ec] 85)
    have LA : Hid (w.heap.size + 1 < w1.heap.size) := hQ_ (by have := I0.out.lt; have := hb1.size; omega)
    have f0 := cZ0 I1.out.fs
    have r1 := cZ0 I1.out.res
    have r2 : (w1.alloc (.cells #[.int .u32 xi,.int .u8 xk,.int .i64 xl,.string xd,.slice ea em ec] 85)).frozen? ⟨w.heap.size + 1,0,none⟩ = false := I1.out.res.frozen 0
    have f3 := cZ3 X1.out
    clear hb1 hbn hway hen
    have f0c : (w1.alloc (.cells #[.int .u32 xi,.int .u8 xk,.int .i64 xl,.string DD,.slice ea em ec] 85)).drew.cell? ⟨w.heap.size,0,none⟩ = some (.slice h.a h.n h.c) := (IB.out.below (bW_).drew).fs.cell 0
    go_upto_region 10 with (fail)
    go_region_with (first | (go_at_call 129; refine (HZ.out _).mono ?_; rintro e w9 ⟨rfl,rfl⟩))
    all_goals
     rw [HDN.out]
     go_wp2_with fail
     refine (with_calls h F ⟨xi,xk,xl,DD,xe⟩ ⟨ea,em,ec⟩ _ (IB.out.below ((bW_).drew)).lies (HEN.out.below ((bW_).drew)) HSL.out ((IB.out.below ((bW_).drew)).room HT.out)).mono ?_
     rintro e w4 ⟨h4,rfl,hf4,hb4⟩
     have I4 := hQ_ ((IB.out.below ((bW_).drew)).below hb4)
     have L4 := hQ_ hf4
     clear hf4 hb4
     go_wp2_with ((with_reducible refine pick none ?_); refine store_blk rfl 29 _ _ rfl (w.heap.size + 1) #[.slice h4.a h4.n h4.c] rfl rfl 29 _ I4.out.res info_fs rfl (by simp [Value.oneCell']) ?_; intro w5 hk5 hg5)
     exact bodyPost_ret (v := .tuple #[.int .i64 0,.agg #[.slice h4.a h4.n h4.c]]) (results_tmp_row rfl _ _ (w.heap.size + 1) 29 _ (0,0) _ rfl _ rfl hk5 Tryz.underlying29 rfl info_fs) rfl (AnsE.of (by rw [HDD.out]) (I4.out.ret L4.out hg5))
end Go.Proofs.YtfalhnomhidkcaaGreatDoor.FileRa