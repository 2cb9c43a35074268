import Derived.Test.YtogdjbhjgbnicaaGreatDoorByte
import Derived.Laws.CopyOwn
import Derived.Lib.AppendStr
import Derived.Lib.SliceRun
import Derived.OwnWalk
namespace Go.Proofs.YtogdjbhjgbnicaaGreatDoor.Byte
open Go.RowKit
def txt (s : ByteArray) : List Int := s.data.toList.map (fun b => (b.toNat : Int))
theorem txt_len (s : ByteArray) : (txt s).length = s.size := by
 unfold txt
 rw [List.length_map,Array.length_toList]
 rfl
theorem txt_bd (s : ByteArray) : ∀ x ∈ txt s,0 ≤ x ∧ x ≤ 255 := by
 intro x hx
 obtain ⟨b,_,rfl⟩ := List.mem_map.1 hx
 have := b.toNat_lt
 omega
theorem str_txt (s : ByteArray) : str (txt s) = s := by
 unfold str txt
 apply ByteArray.ext
 apply Array.ext'
 simp only [List.map_map]
 have e : s.data.toList.map ((fun x : Int => UInt8.ofNat x.toNat) ∘ fun b => (b.toNat : Int)) = s.data.toList.map id := List.map_congr_left fun b _ => by simp
 rw [e,List.map_id]
theorem txt_str (xs : List Int) (h : ∀ x ∈ xs,0 ≤ x ∧ x ≤ 255) : txt (str xs) = xs := by
 unfold str txt
 simp only [List.map_map]
 have e : xs.map ((fun b : UInt8 => (b.toNat : Int)) ∘ fun x => UInt8.ofNat x.toNat) = xs.map id := by
  refine List.map_congr_left fun x hx => ?_
  have := h x hx
  simp only [Function.comp,UInt8.toNat_ofNat',id]
  omega
 rw [e,List.map_id]
theorem txt_take (s : ByteArray) (k : Nat) : txt (s.extract 0 k) = (txt s).take k := by
 unfold txt
 rw [ByteArray.data_extract]
 simp [List.map_take]
theorem str_size (xs : List Int) : (str xs).size = xs.length := by
 show (str xs).data.size = _
 simp [str]
theorem str_append (xs ys : List Int) : str xs ++ str ys = str (xs ++ ys) := by
 unfold str
 rw [ByteArray.mk_append_mk]
 simp
def over (xs : List Int) (off : Nat) (ys : List Int) : List Int := xs.take off ++ (ys ++ xs.drop (off + ys.length))
theorem over_len (xs : List Int) (off : Nat) (ys : List Int) (h : off + ys.length ≤ xs.length) : (over xs off ys).length = xs.length := by simp [over]; omega
theorem over_mem {xs : List Int} {off : Nat} {ys : List Int} {y : Int} (h : y ∈ over xs off ys) : y ∈ xs ∨ y ∈ ys := by
 unfold over at h
 rcases List.mem_append.1 h with h | h
 ·exact .inl (List.mem_of_mem_take h)
 ·rcases List.mem_append.1 h with h | h
  ·exact .inr h
  ·exact .inl (List.mem_of_mem_drop h)
theorem over_front (xs zs : List Int) (k : Nat) (h : k = xs.length) (hz : zs.length = k) (ys : List Int) : over (zs ++ ys) 0 xs = xs ++ ys := by
 subst h
 unfold over
 rw [List.take_zero,List.nil_append,Nat.zero_add,← hz,List.drop_left]
section
variable {w w' : World} {base : Nat} {e : TypeId} {g n cap : Nat} {xs : List Int}
theorem Ob.row (h : Ob w base e g n cap xs) : ∃ cur : Array Value,w.heap[g]? = some (.cells cur e (0,0)) ∧ base ≤ g ∧ n ≤ cap ∧ cap ≤ maxLen ∧ cur.size = cap ∧ cur.toList.take n = xs.map (Value.int .u8) := by
 rcases h.2.2.2 with ⟨h1,_⟩ | ⟨g',cap',cur,h1,hb,hg,hn,hm,hs,ht⟩
 ·cases h1
 ·injection h1 with h1 _ h3
  injection h1 with h1
  injection h1 with h1
  subst h1
  subst h3
  exact ⟨cur,hg,hb,hn,hm,by simpa using hs,by simpa using ht⟩
theorem Ob.setRow (h : Ob w base e g n cap xs) (cur : Array Value) (hg : w.heap[g]? = some (.cells cur e (0,0))) (ht : cur.toList.take n = xs.map (Value.int .u8)) (hs : cur.size = cap) (off : Nat) (ys : List Int) (hfit : off + ys.length ≤ n) (hy : ∀ y ∈ ys,0 ≤ y ∧ y ≤ 255) :
 Ob (w.setRow g (cur.toList.take off ++ (ys.map (Value.int .u8) ++ cur.toList.drop (off + ys.length))).toArray) base e g n cap (over xs off ys) := by
 obtain ⟨_,_,hb,hn,hm,_,_⟩ := h.row
 have hl : (over xs off ys).length = n := by rw [over_len _ _ _ (by rw [h.1]; exact hfit),h.1]
 refine ⟨hl,fun y hy' => ?_,by rw [List.length_map,hl,Nat.mul_one],.inr ⟨g,cap,_,rfl,hb,setRow_heap w g cur _ e _ hg,hn,hm,?_,?_⟩⟩
 ·rcases over_mem hy' with h1 | h1
  ·exact h.2.1 y h1
  ·exact hy y h1
 ·simp
  omega
 ·have hcur : cur.toList = xs.map (Value.int .u8) ++ cur.toList.drop n := by rw [← ht,List.take_append_drop]
  have hxl : (xs.map (Value.int .u8)).length = n := by rw [List.length_map,h.1]
  generalize cur.toList.drop n = T at hcur
  have e1 : cur.toList.take off = (xs.map (Value.int .u8)).take off := by rw [hcur,List.take_append_of_le_length (by rw [hxl]; omega)]
  have e2 : cur.toList.drop (off + ys.length) = (xs.map (Value.int .u8)).drop (off + ys.length) ++ T := by rw [hcur,List.drop_append_of_le_length (by rw [hxl]; omega)]
  rw [e1,e2,Nat.mul_one]
  unfold over
  simp only [List.map_append,List.map_take,List.map_drop,← List.append_assoc]
  refine List.take_left' ?_
  simp [h.1]
  omega
theorem Ob.capLe (h : Ob w base e g n cap xs) : n ≤ cap := by
 obtain ⟨_,_,_,h,_⟩ := h.row
 exact h
theorem Bs.str_ {P : Program} {A : Option Addr} {c : Nat} (h : Bs w A n xs) (src dst : TypeId)
 (hs : P.underlying src = some (.slice e)) (he : P.underlying e = some (.int .u8)) (hd : P.underlying dst = some .string) :
 (convert src dst (.slice A n c)).run P w = .ok (.string (str xs)) w := by
 have hl : (xs.map (fun x => UInt8.ofNat x.toNat)).length = n := by rw [List.length_map]; exact h.1
 rcases Nat.eq_zero_or_pos n with h0 | h0
 ·subst h0
  have hx : xs = [] := List.eq_nil_of_length_eq_zero h.1
  subst hx
  rw [run_convert_bytes_string w src dst e A 0 c hs he hd]
  cases A <;> first | rfl | simp [str,Conv.bytesToString,loadCells]
 ·obtain ⟨b,o,rfl,_,_⟩ := h.2.2 0 h0
  have r := run_convert_bytes_back (P := P) w src dst e ⟨b,o,none⟩ c (xs.map (fun x => UInt8.ofNat x.toNat)) hs he hd (fun j hj => by
   have hj' : j < n := by rw [← hl]; exact hj
   have hx : j < xs.length := by rw [h.1]; exact hj'
   have e2 : (⟨b,o,none⟩ : Addr).add j = ⟨b,o + j,none⟩ := by
    unfold Addr.add
    by_cases h0 : j = 0 <;> simp [h0]
   rw [e2,h.at_ j hj']
   have hb := h.2.1 _ (List.getElem_mem hx)
   simp only [List.getElem_map,List.getD_eq_getElem?_getD,List.getElem?_eq_getElem hx,Option.getD_some]
   congr 2
   rw [UInt8.toNat_ofNat']
   omega)
  rw [hl] at r
  exact r
end
theorem Bs.sub {w : World} {b o n : Nat} {xs : List Int} (h : Bs w (some ⟨b,o,none⟩) n xs) (lo m : Nat) (hm : lo + m ≤ n) : Bs w (some ⟨b,o + lo,none⟩) m ((xs.drop lo).take m) := by
 refine ⟨by rw [List.length_take,List.length_drop,h.1]; omega,fun x hx => h.2.1 x (List.mem_of_mem_drop (List.mem_of_mem_take hx)),fun k hk => ?_⟩
 obtain ⟨b',o',e1,hlt,hc⟩ := h.2.2 (lo + k) (by omega)
 injection e1 with e1
 injection e1 with e1 e2
 subst e1
 subst e2
 refine ⟨b,o + lo,rfl,hlt,?_⟩
 rw [Nat.add_assoc,hc]
 have hl : lo + k < xs.length := by rw [h.1]; omega
 simp [List.getD,hk,List.getElem?_eq_getElem hl]
section
variable {P : Program} {w : World}
theorem grown_setRow (w : World) (g : Nat) (cs : Array Value) : w.grownBy (w.setRow g cs) (some g) :=
 ⟨rfl,rfl,rfl,by simp [World.setRow],fun k _ hne => setRow_other w g k cs (fun e => hne (by rw [e]))⟩
theorem pick {ops : Array Oper} {rest : List Oper} {op : Op} {t : TypeId} {p : String} {af : Array Edge} {gd : Option (Nat × Bool)} {a : Act} {Q : Exit → Act → World → Prop} (d : Option Tmp) (h : wpList P ops Q (⟨d,op,t,p,af,gd⟩ :: rest) a w) :
 wpList P ops Q (⟨d,op,t,p,af,gd⟩ :: rest) a w := h
theorem wpList_make_bytes {ops : Array Oper} {rest : List Oper} {o : Oper} {a : Act} {Q : Exit → Act → World → Prop} (hgd : o.guard = none) (l c : Operand) (t : TypeId) (ho : o.op = Op.makeSlice t l c)
 (base : Nat) (e : TypeId) (ht : P.underlying t = some (.slice e)) (hinfo : (P.info? e).map (fun i => (i.zero,i.size,i.bytes)) = some (some (.int .u8 0),1,1))
 (kl kc : IntKind) (L C : Int) (n : Nat) (hl : a.eval l = .int kl L) (hc : a.eval c = .int kc C) (hL : L = (n : Int)) (hC : C = (n : Int)) (hn : n ≤ 140737488355328) (hbase : base ≤ w.heap.size)
 (h : ∀ w',Ob w' base e w.heap.size n n (List.replicate n 0) → w.grownBy w' none → wpList P ops Q rest (a.put o.dst (.slice (some ⟨w.heap.size,0,none⟩) n n)) w') :
 wpList P ops Q (o :: rest) a w := by
 obtain ⟨i,hi,hz0,hz1,hz2⟩ := info_parts hinfo
 refine wpList_make_full w hgd l c t ho base e i _ 1 ht hi hz0 hz1 kl kc L C n hl hc hL hC (by rw [hz2]; omega) (by simp only [maxLen]; omega) hbase ?_
 intro w' hown hg
 refine h w' ⟨List.length_replicate,fun x hx => by rw [List.eq_of_mem_replicate hx]; omega,?_⟩ hg
 have e1 : (madeCells (Value.int IntKind.u8 0).cells (n * 1)).toList = (List.replicate n (0 : Int)).map (Value.int .u8) := by
  rw [Nat.mul_one,show (Value.int IntKind.u8 0).cells = #[.int .u8 0] from rfl,toList_madeCells_one,List.map_replicate]
 rw [e1] at hown
 exact hown
theorem wpList_copy_bytes {ops : Array Oper} {rest : List Oper} {o : Oper} {a : Act} {Q : Exit → Act → World → Prop} (hgd : o.guard = none) (d s : Operand) (dT sT : TypeId)
 (ho : o.op = .call { callee := .builtin .copy,args := #[d,s],argTypes := #[dT,sT] }) (e : TypeId) (hu : P.underlying dT = some (.slice e)) (hsz : (P.info? e).map (·.size) = some 1)
 (base g off dLen dCap n cap : Nat) (xs : List Int) (dp : Option Addr) (hd : a.eval d = .slice dp dLen dCap) (hown : Ob w base e g n cap xs)
 (A : Option Addr) (m c : Nat) (ys : List Int) (hs : a.eval s = .slice A m c) (hr : Bs w A m ys) (hm : m ≤ dLen) (hdp : 0 < m → dp = some ⟨g,off,none⟩) (hfit : off + m ≤ n)
 (zs : List Int) (hz : over xs off ys = zs)
 (h : ∀ w',Ob w' base e g n cap zs → w.grownBy w' (some g) → wpList P ops Q rest (a.put o.dst (goInt m)) w') : wpList P ops Q (o :: rest) a w := by
 subst hz
 obtain ⟨cur,hg,hb,hnc,hcm,hcs,ht⟩ := hown.row
 rcases Nat.eq_zero_or_pos m with h0 | h0
 ·subst h0
  have hy : ys = [] := List.eq_nil_of_length_eq_zero hr.1
  subst hy
  refine wpList_copy_nothing hgd d s dT sT ho e hu hsz dp A dLen dCap 0 c hd hs (Nat.min_eq_left (Nat.zero_le _)) ?_
  exact h w (by simpa [over] using hown) (World.grownBy.refl w _)
 ·obtain ⟨b,o',rfl,_,_⟩ := hr.2.2 0 h0
  rw [hdp h0] at hd
  have hlen : (ys.map (Value.int .u8)).length = m := by rw [List.length_map,hr.1]
  refine wpList_copy_own hgd d s dT sT ho e hu hsz g off dLen dCap ⟨b,o',none⟩ m c hd hs cur e hg (ys.map (Value.int .u8)) (by rw [hlen]; exact (Nat.min_eq_left hm).symm) (fun j v hj => ?_) (by rw [hlen]; omega) (fun v hv => by obtain ⟨_,_,rfl⟩ := List.mem_map.1 hv; rfl) ?_
  ·have hj' : j < ys.length := by
    have := (List.getElem?_eq_some_iff.1 hj).1
    rwa [List.length_map] at this
   have e2 : (⟨b,o',none⟩ : Addr).add j = ⟨b,o' + j,none⟩ := by
    unfold Addr.add
    by_cases h0 : j = 0 <;> simp [h0]
   rw [e2,hr.at_ j (by rw [← hr.1]; exact hj'),← hj]
   simp [List.getElem?_eq_getElem hj']
  ·rw [hlen]
   have e3 := hown.setRow cur hg ht hcs off ys (by rw [hr.1]; exact hfit) hr.2.1
   rw [hr.1] at e3
   exact h _ e3 (grown_setRow w g _)
end
end Go.Proofs.YtogdjbhjgbnicaaGreatDoor.Byte