import Derived.Laws.Concat
import Derived.WalkLawsBesides
import Derived.WalkSpells
import Derived.Test.YtogdjbhjgbnicaaGreatDoorNamesR
import Derived.Lib.MinMax
import Derived.Test.YtogdjbhjgbnicaaGreatDoorSq
import Derived.Lib.Split
import Derived.Lib.Join
import Derived.Test.YtogdjbhjgbnicaaGreatDoorNamesM
import Derived.Test.YtogdjbhjgbnicaaGreatDoorProg
import Derived.Shelf.Strings.SplitShaped
import Derived.Shelf.Strings.OnBuilder
import Derived.Shelf.Strings.Prefix
import Derived.Shelf.Slices.Empties2
import Derived.KernelRfl
set_option linter.unusedVariables false
set_option linter.unusedSimpArgs false
namespace Go.Proofs.YtogdjbhjgbnicaaGreatDoor.NamesS
open Go.RowKit
open Byte KeysM KeysN NamesM Lst Tx NamesR
open Own (keeps)
theorem take_at {α : Type} {L : List α} {k : Nat} {x : α} (h : L[k]? = some x) : L.take (k + 1) = L.take k ++ [x] := by
 obtain ⟨hk,he⟩ := List.getElem?_eq_some_iff.1 h
 rw [List.take_succ_eq_append_getElem hk,he]
end Go.Proofs.YtogdjbhjgbnicaaGreatDoor.NamesS
namespace Go.Proofs.YtogdjbhjgbnicaaGreatDoor.NamesL
open Go.RowKit
open Byte KeysM NamesM Lst Tx NamesR NamesS
open Own (keeps)
def Mx (w : World) : Prop := ∃ m,w.cell? ⟨0,0,none⟩ = some (.int .i64 m)
theorem Mx.below {w w' : World} (h : Mx w) (hb : Below w.heap.size w w') : Mx w' := by
 obtain ⟨m,hm⟩ := h
 have hlt : 0 < w.heap.size := Classical.byContradiction fun hn => by
  have h0 : w.heap[0]? = none := Array.getElem?_eq_none (by omega)
  simp [World.cell?,h0] at hm
 exact ⟨m,(hb.cell (p := ⟨0,0,none⟩) hlt).trans hm⟩
def SplitOk : Prop := ∀ (s : ByteArray) (w : World),s.size ≤ 100000 → Mx w → Calls Tryz.prog 119 #[.string s] w (SplE s w)
def UnderOk : Prop := ∀ (A B : Option Addr) (n c m c2 : Nat) (L M : List ByteArray) (w : World),Sl txE w A n L → Sl txE w B m M → n ≤ c → m ≤ c2 → n ≤ 100000 → m ≤ 100000 → Calls Tryz.prog 136 #[.slice A n c,.slice B m c2] w fun e w' => e = .returned (.bool (under L M)) ∧ Below w.heap.size w w'
theorem room_of {T : TypeId} {w : World} {base n c : Nat} {A : Option Addr} {L : List ByteArray} (h : So txE T w base (.slice A n c) n L) : n ≤ c := by
 obtain ⟨A',c',e,h1,_⟩ := So.head h
 injection e with e1 e2 e3
 omega
theorem below_lit {w : World} (cs : Array Value) (T : TypeId) : Below w.heap.size w (w.alloc (.cells cs T)) := bW_
theorem spl_small (s : ByteArray) : (spl s).1.length ≤ 16 ∧ ∀ x ∈ (spl s).1,x.size ≤ 32 := by
 unfold spl
 split
 ·exact ⟨by decide,fun x hx => by cases hx⟩
 ·split
  ·exact ⟨by decide,fun x hx => by cases hx⟩
  ·split
   ·exact ⟨by decide,fun x hx => by cases hx⟩
   ·split
    ·rename_i h
     rw [Bool.and_eq_true,decide_eq_true_eq] at h
     exact ⟨h.2,fun x hx => (name_pos (List.all_eq_true.1 h.1 x hx)).2⟩
    ·exact ⟨by decide,fun x hx => by cases hx⟩
theorem under_no {L M : List ByteArray} (h : ¬ L.length < M.length) : under L M = false := by unfold under; rw [decide_eq_false h]; rfl
theorem under_yes {L M : List ByteArray} (h : L.length < M.length) : under L M = decide (M.take L.length = L) := by unfold under; rw [decide_eq_true h]; rfl
end Go.Proofs.YtogdjbhjgbnicaaGreatDoor.NamesL
namespace Go.Proofs.YtogdjbhjgbnicaaGreatDoor.NamesKm
open Byte PackM KeysM NamesM
def ints (l : List UInt8) : List Int := l.map (fun b => (b.toNat : Int))
theorem pre_47 (b : UInt8) (l : List UInt8) : ([47] : List UInt8).isPrefixOf (b :: l) = (47 == b) := by
 simp [List.isPrefixOf]
theorem splitK_succ (sep : List UInt8) (save k : Nat) (s : List UInt8) : Lib.splitK sep save (k + 1) s = if Lib.index s sep == -1 then [s] else s.take ((Lib.index s sep).toNat + save) :: Lib.splitK sep save k (s.drop ((Lib.index s sep).toNat + sep.length)) := rfl
theorem split_ints (l : List UInt8) : (Lib.split l [47]).map ints = fields (ints l) := by
 induction l with
 | nil => rfl
 | cons b r ih =>
   show _ = fields ((b.toNat : Int) :: ints r)
   unfold fields
   by_cases h : b = 47
   ·subst h
    have hi : Lib.index (47 :: r) [47] = ((0 : Nat) : Int) := by unfold Lib.index; rw [pre_47,if_pos (by decide)]; rfl
    rw [if_pos (by decide),← ih]
    unfold Lib.split
    rw [Lib.count_hit (by decide) hi,Nat.add_comm,splitK_succ,hi,if_neg (by decide)]
    rfl
   ·have hb : ¬ (b.toNat : Int) = 47 := by
     intro e
     apply h
     apply UInt8.toNat_inj.1
     show b.toNat = 47
     omega
    have hp : (47 == b) = false := by rw [beq_eq_false_iff_ne]; exact fun e => h e.symm
    rw [if_neg hb,← ih]
    rcases Lib.index_spec r [47] with ⟨hi,_⟩ | ⟨i,hi,_⟩
    ·have hi2 : Lib.index (b :: r) [47] = -1 := by unfold Lib.index; rw [pre_47,hp,hi]; rfl
     unfold Lib.split
     rw [Lib.count_miss hi,Lib.count_miss hi2]
     rfl
    ·have hi2 : Lib.index (b :: r) [47] = ((i + 1 : Nat) : Int) := by
      unfold Lib.index
      rw [pre_47,hp,hi]
      have : ((i : Int) == -1) = false := by rw [beq_eq_false_iff_ne]; omega
      simp [this]
     unfold Lib.split
     rw [Lib.count_hit (by decide) hi,Lib.count_hit (by decide) hi2]
     have e1 : (b :: r).drop (i + 1 + ([47] : List UInt8).length) = r.drop (i + ([47] : List UInt8).length) := by simp
     rw [e1,Nat.add_comm 1,splitK_succ,splitK_succ,hi,hi2]
     have q1 : ¬ (((i : Nat) : Int) == -1) = true := by simp
     have q2 : ¬ (((i + 1 : Nat) : Int) == -1) = true := by simp; omega
     rw [if_neg q1,if_neg q2]
     simp only [Int.toNat_natCast,Nat.add_zero,List.map_cons,List.take_succ_cons]
     rw [e1]
     rfl
def sl : ByteArray := ⟨#[47]⟩
theorem txt_ints (s : ByteArray) : txt s = ints s.data.toList := rfl
theorem txt_rest (s : ByteArray) : txt (s.extract 1 s.size) = (txt s).drop 1 := by
 unfold txt
 rw [ByteArray.data_extract]
 simp [List.map_take,List.map_drop]
 refine List.take_of_length_le ?_
 rw [List.length_tail,List.length_map]
 exact Nat.le_refl _
theorem names_split (s : ByteArray) : Lib.splitB sl 0 (Lib.countB (s.extract 1 s.size) sl) (s.extract 1 s.size) = namesOf s := by
 have h := split_ints (s.extract 1 s.size).data.toList
 rw [← txt_ints,txt_rest] at h
 have h2 := Lib.splitB_data sl 0 (Lib.countB (s.extract 1 s.size) sl) (s.extract 1 s.size)
 have h3 : Lib.split (s.extract 1 s.size).data.toList [47] = Lib.splitK sl.data.toList 0 (Lib.countB (s.extract 1 s.size) sl) (s.extract 1 s.size).data.toList := rfl
 rw [h3,← h2,List.map_map] at h
 unfold namesOf
 rw [← h,List.map_map]
 have : ∀ x : ByteArray,(str ∘ (ints ∘ fun x => x.data.toList)) x = x := fun x => str_txt x
 rw [show (str ∘ (ints ∘ fun x : ByteArray => x.data.toList)) = id from funext this,List.map_id]
theorem split_count (l : List UInt8) : (Lib.split l [47]).length = Lib.count l [47] + 1 := by
 have key : ∀ (n : Nat) (l : List UInt8),l.length ≤ n → (Lib.splitK [47] 0 (Lib.count l [47]) l).length = Lib.count l [47] + 1 := by
  intro n
  induction n with
  | zero =>
    intro l hl
    have : l = [] := List.eq_nil_of_length_eq_zero (by omega)
    subst this
    rfl
  | succ n ih =>
    intro l hl
    rcases Lib.index_spec l [47] with ⟨hi,_⟩ | ⟨i,hi,hil,_⟩
    ·rw [Lib.count_miss hi]
     rfl
    ·have hr := Lib.index_room l [47] (by omega)
     rw [hi] at hr
     have hq : ¬ (((i : Nat) : Int) == -1) = true := by simp
     rw [Lib.count_hit (by decide) hi,Nat.add_comm 1,splitK_succ,hi,if_neg hq,List.length_cons]
     have hd : (l.drop (i + ([47] : List UInt8).length)).length ≤ n := by simp at hr ⊢; omega
     have := ih _ hd
     simp only [Int.toNat_natCast] at *
     omega
 exact key _ l (Nat.le_refl _)
theorem names_count (s : ByteArray) : Lib.countB (s.extract 1 s.size) sl + 1 = (namesOf s).length := by
 rw [← names_split]
 have h2 := congrArg List.length (Lib.splitB_data sl 0 (Lib.countB (s.extract 1 s.size) sl) (s.extract 1 s.size))
 rw [List.length_map] at h2
 rw [h2]
 exact (split_count _).symm
def jok (L : List ByteArray) : Bool := L.all nameOk && decide (L.length ≤ 16) && decide ((slashed L).length ≤ 255)
theorem jok_iff {L : List ByteArray} : jok L = true ↔ L.all nameOk = true ∧ L.length ≤ 16 ∧ (slashed L).length ≤ 255 := by
 unfold jok
 simp [and_assoc]
theorem slashed_append (L M : List ByteArray) : slashed (L ++ M) = slashed L ++ slashed M := by
 unfold slashed
 rw [List.flatMap_append]
theorem jok_snoc (L : List ByteArray) (x : ByteArray) (h : jok L = true) : jok (L ++ [x]) = (nameOk x && decide (L.length + 1 ≤ 16) && decide ((slashed L).length + (1 + x.size) ≤ 255)) := by
 obtain ⟨h1,h2,h3⟩ := jok_iff.1 h
 unfold jok
 rw [List.all_append,h1,slashed_snoc]
 have : (slashed L ++ 47 :: txt x).length = (slashed L).length + (1 + x.size) := by rw [List.length_append,List.length_cons,txt_len]; omega
 rw [this,List.length_append]
 simp
theorem jok_pre {L M : List ByteArray} (h : jok (L ++ M) = true) : jok L = true := by
 obtain ⟨h1,h2,h3⟩ := jok_iff.1 h
 rw [List.all_append,Bool.and_eq_true] at h1
 rw [List.length_append] at h2
 rw [slashed_append,List.length_append] at h3
 exact jok_iff.2 ⟨h1.1,by omega,by omega⟩
theorem jok_take {L : List ByteArray} {k : Nat} (h : jok (L.take k) = false) : jok L = false := by
 cases hh : jok L with
 | false => rfl
 | true =>
   rw [← List.take_append_drop k L] at hh
   rw [jok_pre hh] at h
   cases h
theorem spl_yes {s : ByteArray} (h1 : 2 ≤ s.size) (h2 : s.size ≤ 255) (h47 : (txt s).getD 0 0 = 47) : spl s = if jok (namesOf s) then (namesOf s,0) else ([],17) := by
 have hs : slashed (namesOf s) = txt s := by rw [slashed_map,txt_names,fields_back,← txt_cons (by omega) h47]
 unfold spl jok
 rw [if_neg (by omega),if_neg (fun h => h h47),if_neg (by omega),hs,txt_len]
 have : decide (s.size ≤ 255) = true := decide_eq_true h2
 rw [this,Bool.and_true]
theorem txt_size (s : ByteArray) : (txt s).length = s.size := txt_len s
theorem slashed_bounds (L : List ByteArray) : L.length ≤ (slashed L).length ∧ ∀ x ∈ L,x.size ≤ (slashed L).length := by
 induction L with
 | nil => exact ⟨Nat.le_refl _,fun x hx => by cases hx⟩
 | cons a r ih =>
   have e : (slashed (a :: r)).length = 1 + a.size + (slashed r).length := by
    show (47 :: (txt a ++ slashed r)).length = _
    rw [List.length_cons,List.length_append,txt_len]
    omega
   rw [e,List.length_cons]
   refine ⟨by omega,fun x hx => ?_⟩
   rcases List.mem_cons.1 hx with rfl | hx
   ·omega
   ·have := ih.2 x hx
    omega
theorem one_47 {s : ByteArray} (h : s.size = 1) (h47 : (txt s).getD 0 0 = 47) : s = ⟨#[47]⟩ := by
 have hl := txt_len s
 have hc := txt_cons (s := s) (by omega) h47
 have : (txt s).drop 1 = [] := List.eq_nil_of_length_eq_zero (by rw [List.length_drop]; omega)
 rw [this] at hc
 rw [← str_txt s,hc]
 rfl
end Go.Proofs.YtogdjbhjgbnicaaGreatDoor.NamesKm
set_option maxRecDepth 100000
namespace Go.Proofs.YtogdjbhjgbnicaaGreatDoor.NamesY
open Go.Proofs
def splitLay_ren : Go.Shelf.Ren := ⟨fun | 146 => 143 | 221 => 161 | 268 => 172 | 138 => 173 | 143 => 174 | 195 => 181 | 197 => 182 | 218 => 183 | 219 => 184 | 260 => 190 | 217 => 191 | 225 => 192 | 224 => 193 | 267 => 194 | 266 => 196 | 314 => 197 | n => n,fun | 9 => 9 | 31 => 44 | 3 => 3 | 4 => 4 | 0 => 0 | 105 => 226 | 21 => 21 | 5 => 5 | 46 => 221 | 119 => 233 | 139 => 236 | 138 => 235 | 146 => 237 | 51 => 33 | n => n,fun | 1 => 0 | 3 => 1 | 4 => 2 | n => n⟩
theorem splitLay : Go.Proofs.LaysM.n146 Tryz.prog splitLay_ren := {
 mixed := by kernel_rfl,
 f138 := Tryz.func173.trans (congrArg some (by kernel_rfl)),
 f143 := Tryz.func174.trans (congrArg some (by kernel_rfl)),
 f146 := Tryz.func143.trans (congrArg some (by kernel_rfl)),
 f195 := Tryz.func181.trans (congrArg some (by kernel_rfl)),
 f197 := Tryz.func182.trans (congrArg some (by kernel_rfl)),
 f217 := Tryz.func191.trans (congrArg some (by kernel_rfl)),
 f218 := Tryz.func183.trans (congrArg some (by kernel_rfl)),
 f219 := Tryz.func184.trans (congrArg some (by kernel_rfl)),
 f221 := Tryz.func161.trans (congrArg some (by kernel_rfl)),
 f224 := Tryz.func193.trans (congrArg some (by kernel_rfl)),
 f225 := Tryz.func192.trans (congrArg some (by kernel_rfl)),
 f260 := Tryz.func190.trans (congrArg some (by kernel_rfl)),
 f266 := Tryz.func196.trans (congrArg some (by kernel_rfl)),
 f267 := Tryz.func194.trans (congrArg some (by kernel_rfl)),
 f268 := Tryz.func172.trans (congrArg some (by kernel_rfl)),
 f314 := Tryz.func197.trans (congrArg some (by kernel_rfl)),
 t0 := Tryz.underlying0,
 a0 := Tryz.isAgg0,
 z0 := Tryz.sizeOf0,
 v0 := Tryz.zeroValue0,
 t3 := Tryz.underlying3,
 a3 := Tryz.isAgg3,
 z3 := Tryz.sizeOf3,
 v3 := Tryz.zeroValue3,
 t4 := Tryz.underlying4,
 a4 := Tryz.isAgg4,
 z4 := Tryz.sizeOf4,
 v4 := Tryz.zeroValue4,
 t5 := Tryz.underlying5,
 a5 := Tryz.isAgg5,
 z5 := Tryz.sizeOf5,
 v5 := Tryz.zeroValue5,
 t9 := Tryz.underlying9,
 a9 := Tryz.isAgg9,
 z9 := Tryz.sizeOf9,
 v9 := Tryz.zeroValue9,
 t21 := Tryz.underlying21,
 a21 := Tryz.isAgg21,
 z21 := Tryz.sizeOf21,
 v21 := Tryz.zeroValue21,
 t31 := Tryz.underlying44,
 a31 := Tryz.isAgg44,
 z31 := Tryz.sizeOf44,
 v31 := Tryz.zeroValue44,
 t46 := Tryz.underlying221,
 a46 := Tryz.isAgg221,
 z46 := Tryz.sizeOf221,
 v46 := Tryz.zeroValue221,
 t51 := Tryz.underlying33,
 a51 := Tryz.isAgg33,
 z51 := Tryz.sizeOf33,
 v51 := Tryz.zeroValue33,
 t105 := Tryz.underlying226,
 a105 := Tryz.isAgg226,
 z105 := Tryz.sizeOf226,
 v105 := Tryz.zeroValue226,
 t119 := Tryz.underlying233,
 a119 := Tryz.isAgg233,
 z119 := Tryz.sizeOf233,
 t138 := Tryz.underlying235,
 a138 := Tryz.isAgg235,
 z138 := Tryz.sizeOf235,
 v138 := Tryz.zeroValue235,
 t139 := Tryz.underlying236,
 a139 := Tryz.isAgg236,
 z139 := Tryz.sizeOf236,
 v139 := Tryz.zeroValue236,
 t146 := Tryz.underlying237,
 a146 := Tryz.isAgg237,
 z146 := Tryz.sizeOf237,
 v146 := Tryz.zeroValue237,
 g1 := by kernel_rfl,
 g3 := by kernel_rfl,
 g4 := by kernel_rfl,
 i0 := by kernel_rfl,
 i3 := by kernel_rfl,
 i4 := by kernel_rfl,
 i5 := by kernel_rfl,
 i9 := by kernel_rfl,
 i21 := by kernel_rfl,
 i31 := by kernel_rfl,
 i46 := by kernel_rfl,
 i51 := by kernel_rfl,
 i105 := by kernel_rfl,
 i138 := by kernel_rfl,
 i139 := by kernel_rfl,
 i146 := by kernel_rfl,
 m1 := by kernel_rfl,
 s1_3 := fun w h => Go.Proofs.cell_of_shapedOpen_int (zero := #[.int .i64 0]) (t := 3) h (of_decide_eq_true (by kernel_rfl)) (by kernel_rfl) rfl (by kernel_rfl) (by kernel_rfl) Tryz.underlying3,
 m3 := by kernel_rfl,
 m4 := by kernel_rfl }
def preLay_ren : Go.Shelf.Ren := ⟨fun | 99 => 142 | 206 => 160 | n => n,fun | 9 => 9 | 4 => 4 | 3 => 3 | n => n,fun | n => n⟩
theorem preLay : Go.Proofs.Lays.n99 Tryz.prog preLay_ren := {
 mixed := by kernel_rfl,
 f99 := Tryz.func142.trans (congrArg some (by kernel_rfl)),
 f206 := Tryz.func160.trans (congrArg some (by kernel_rfl)),
 t3 := Tryz.underlying3,
 a3 := Tryz.isAgg3,
 z3 := Tryz.sizeOf3,
 v3 := Tryz.zeroValue3,
 t4 := Tryz.underlying4,
 a4 := Tryz.isAgg4,
 z4 := Tryz.sizeOf4,
 v4 := Tryz.zeroValue4,
 t9 := Tryz.underlying9,
 a9 := Tryz.isAgg9,
 z9 := Tryz.sizeOf9,
 v9 := Tryz.zeroValue9 }
def eqLay_ren : Go.Shelf.Ren := ⟨fun | 193 => 159 | n => n,fun | 31 => 44 | 9 => 9 | 4 => 4 | 3 => 3 | 0 => 0 | n => n,fun | n => n⟩
theorem eqLay : Go.Proofs.Lays.n193 Tryz.prog eqLay_ren := {
 mixed := by kernel_rfl,
 f193 := Tryz.func159.trans (congrArg some (by kernel_rfl)),
 t0 := Tryz.underlying0,
 a0 := Tryz.isAgg0,
 z0 := Tryz.sizeOf0,
 v0 := Tryz.zeroValue0,
 t3 := Tryz.underlying3,
 a3 := Tryz.isAgg3,
 z3 := Tryz.sizeOf3,
 v3 := Tryz.zeroValue3,
 t4 := Tryz.underlying4,
 a4 := Tryz.isAgg4,
 z4 := Tryz.sizeOf4,
 v4 := Tryz.zeroValue4,
 t9 := Tryz.underlying9,
 a9 := Tryz.isAgg9,
 z9 := Tryz.sizeOf9,
 v9 := Tryz.zeroValue9,
 t31 := Tryz.underlying44,
 a31 := Tryz.isAgg44,
 z31 := Tryz.sizeOf44,
 v31 := Tryz.zeroValue44 }
end Go.Proofs.YtogdjbhjgbnicaaGreatDoor.NamesY