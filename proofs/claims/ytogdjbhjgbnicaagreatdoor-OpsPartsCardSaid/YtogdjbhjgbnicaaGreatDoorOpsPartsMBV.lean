import Derived.Laws.EntriesVeiled
import Derived.Outline
import Derived.Test.YtogdjbhjgbnicaaGreatDoorSq
import Derived.Test.YtogdjbhjgbnicaaGreatDoorOpsPartsMBT
import Derived.Test.YtogdjbhjgbnicaaGreatDoorKeysU
import Derived.Test.YtogdjbhjgbnicaaGreatDoorOpsPartsMBR
import Derived.Deep.MidRow
import Derived.Test.YtogdjbhjgbnicaaGreatDoorOpsPartsMBH
import Derived.Test.YtogdjbhjgbnicaaGreatDoorOpsPartsMAQ
import Derived.Test.YtogdjbhjgbnicaaGreatDoorOpsPartsMBA
import Derived.WalkSmall
import Derived.Test.YtogdjbhjgbnicaaGreatDoorOpsPartsMAS
import Derived.Test.YtogdjbhjgbnicaaGreatDoorTx
import Derived.StillTailTactics
import Derived.Deep.AppendLies
import Derived.Deep.RegionLaw
import Derived.WalkSpells
import Derived.Test.YtogdjbhjgbnicaaGreatDoorProg
import Derived.StringKeys
import Derived.Maps.Own
import Derived.Maps.OwnOps
import Derived.Maps.OwnSet
import Derived.Maps.Views
import Derived.Test.YtogdjbhjgbnicaaGreatDoorOwn
set_option maxHeartbeats 16000000
set_option linter.unusedVariables false
set_option linter.unusedSimpArgs false
set_option maxRecDepth 100000
namespace Go.Proofs.YtogdjbhjgbnicaaGreatDoor.NamesK
open Go.RowKit
open Byte KeysM NamesKm Lst Tx NamesR NamesL NamesY
open NamesM (spl slashed namesOf under slashed_snoc spl_no spl_15)
open Own (keeps Blk Blk.new_)
open KeysU (name_calls)
open NamesS (take_at)
theorem ent_next : ∀ (args : Array Value) (w : World),(callFunc 162 args).run Tryz.prog w = .ok (.enter 162 args) w := fun args w => by kernel_rfl
theorem name_is {x : ByteArray} {b : Bool} (hb : nameOk x = b) (hx : x.size ≤ 100000) (w : World) : Calls Tryz.prog 163 #[.string x] w fun e w' => e = .returned (.bool b) ∧ Below w.heap.size w w' := by
 subst hb
 exact name_calls x w hx
structure Cnt (w : World) (base p q d z : Nat) : Prop where
 lo1 : base ≤ p
 lo2 : base ≤ q
 ne : p ≠ q
 deep : Blk w p #[.int .i64 (d : Int)] 3
 size : Blk w q #[.int .i64 (z : Int)] 3
theorem Cnt.below {w w' : World} {base p q d z : Nat} (h : Cnt w base p q d z) (hb : Below w.heap.size w w') : Cnt w' base p q d z := ⟨h.lo1,h.lo2,h.ne,h.deep.below hb,h.size.below hb⟩
def NextE (w : World) (e : Ending) (w' : World) : Prop := ∃ p q,e = .returned (.func (.func 162) #[] #[.pointer (some ⟨p,0,none⟩),.pointer (some ⟨q,0,none⟩)]) ∧ Cnt w' w.heap.size p q 0 0 ∧ Below w.heap.size w w'
theorem next_calls (w : World) : Calls Tryz.prog 145 #[] w (NextE w) := by
 go_enter Tryz.func145,Tryz.ntmps145
 go_wp2
 go_ret
 refine ⟨w.heap.size,w.heap.size + 1,rfl,⟨Nat.le_refl _,Nat.le_succ _,by omega,?_,?_⟩,(bW_).alloc (by simp) _⟩
 ·exact (Blk.new_ w #[.int .i64 0] 3).alloc _
 ·have := Blk.new_ (w.alloc (.cells #[.int .i64 0] 3)) #[.int .i64 0] 3
  simpa using this
theorem Cnt.more {w : World} {base p q d z : Nat} (h : Cnt w base p q d z) (n : Nat) : Cnt ((w.setCell ⟨p,0,none⟩ (.int .i64 ((d : Int) + 1))).setCell ⟨q,0,none⟩ (.int .i64 ((z : Int) + (1 + (n : Int))))) base p q (d + 1) (z + (1 + n)) := by
 refine ⟨h.lo1,h.lo2,h.ne,?_,?_⟩
 ·have := (h.deep.set_ 0 (.int .i64 ((d : Int) + 1))).far (p := ⟨q,0,none⟩) h.ne (.int .i64 ((z : Int) + (1 + (n : Int))))
  simpa using this
 ·have := (h.size.far (p := ⟨p,0,none⟩) (fun e => h.ne e.symm) (.int .i64 ((d : Int) + 1))).set_ 0 (.int .i64 ((z : Int) + (1 + (n : Int))))
  simpa using this
theorem step_calls (x : ByteArray) (base p q d z : Nat) (B : Bool) (w0 w : World) (hc : Cnt w base p q d z) (hb : Below base w0 w) (hbase : base ≤ w.heap.size) (hd : d ≤ 16) (hz : z ≤ 255) (hx : x.size ≤ 100000) (hB : (nameOk x && decide (d + 1 ≤ 16) && decide (z + (1 + x.size) ≤ 255)) = B) :
 Calls Tryz.prog 162 #[.string x,.pointer (some ⟨p,0,none⟩),.pointer (some ⟨q,0,none⟩)] w fun e w' => e = .returned (.bool B) ∧ Cnt w' base p q (d + 1) (z + (1 + x.size)) ∧ Below base w0 w' := by
 have p1 := cZ0 hc.deep
 have q1 := cZ0 hc.size
 have p2 : w.frozen? ⟨p,0,none⟩ = false := hc.deep.frozen 0
 have q2 : w.frozen? ⟨q,0,none⟩ = false := hc.size.frozen 0
 have hne : ¬ p = q := hc.ne
 have hne2 : ¬ q = p := fun h => hc.ne h.symm
 have HC := hQ_ (hc.more x.size)
 have HB := hQ_ ((hb.setCell (p := ⟨p,0,none⟩) hc.lo1 (.int .i64 ((d : Int) + 1))).setCell (p := ⟨q,0,none⟩) hc.lo2 (.int .i64 ((z : Int) + (1 + (x.size : Int)))))
 have HZ := hQ_ hbase
 have ways : (nameOk x = false ∧ B = false) ∨ (nameOk x = true ∧ ((decide ((d : Int) + 1 ≤ 16) = false ∧ B = false) ∨ (decide ((d : Int) + 1 ≤ 16) = true ∧ ((decide ((z : Int) + (1 + (x.size : Int)) ≤ 255) = false ∧ B = false) ∨ (decide ((z : Int) + (1 + (x.size : Int)) ≤ 255) = true ∧ B = true))))) := by
  subst hB
  cases nameOk x with
  | false => exact .inl ⟨rfl,rfl⟩
  | true =>
    refine .inr ⟨rfl,?_⟩
    simp only [decide_eq_true_eq,decide_eq_false_iff_not,Bool.true_and,Bool.and_eq_false_iff,Bool.and_eq_true]
    omega
 clear hB hc hb hbase
 rcases ways with ⟨hn,rfl⟩ | ⟨hn,⟨d1,rfl⟩ | ⟨d1,⟨d2,rfl⟩ | ⟨d2,rfl⟩⟩⟩
 all_goals
  have HN := hQ_ (fun w => name_is hn hx w)
  clear hn
  go_enter Tryz.func162,Tryz.ntmps162
  go_wp2_with (go_at_call 163; refine (HN.out _).mono ?_; rintro e w' ⟨rfl,hb'⟩; have HC2 := hQ_ (HC.out.below hb'); have HB2 := hQ_ (HB.out.trans (hb'.mono (by simpa using HZ.out))); have t1 : w'.cell? ⟨p,0,none⟩ = some (.int .i64 ((d : Int) + 1)) := (by have := HC2.out.deep.cell 0; simpa using this); have t2 : w'.cell? ⟨q,0,none⟩ = some (.int .i64 ((z : Int) + (1 + (x.size : Int)))) := (by have := HC2.out.size.cell 0; simpa using this); clear hb')
  go_ret
  exact ⟨rfl,HC2.out,HB2.out⟩
theorem all_calls (A : Option Addr) (n c p q : Nat) (L : List ByteArray) (w0 w : World) (hl : Sl txE w0 A n L) (hc : Cnt w w0.heap.size p q 0 0) (hb : Below w0.heap.size w0 w) (hn : n ≤ 100000) (hz : ∀ x ∈ L,x.size ≤ 100000) :
 Calls Tryz.prog 144 #[.slice A n c,.func (.func 162) #[] #[.pointer (some ⟨p,0,none⟩),.pointer (some ⟨q,0,none⟩)]] w fun e w' => e = .returned (.bool (jok L)) ∧ Below w0.heap.size w0 w' := by
 have HL := hQ_ hl
 have HC := hQ_ hc
 have HB := hQ_ hb
 have HZ := hQ_ hz
 have he := ent_next
 clear hl hc hb hz
 go_enter Tryz.func144,Tryz.ntmps144
 go_wp2
 go_loopw [9] (fun i wr => ∃ k : Nat,k ≤ n ∧ i = .int .i64 k ∧ Hid (jok (L.take k) = true) ∧ Hid (Cnt wr w0.heap.size p q k (slashed (L.take k)).length) ∧ Hid (Below w0.heap.size w0 wr)) (fun i _ => n - (intOf i).toNat)
 case atStart => exact ⟨0,Nat.zero_le _,rfl,hQ_ rfl,HC,HB⟩
 case round =>
  obtain ⟨k,hk,rfl,HJ,HK,HW⟩ := hrel
  by_cases hlt : k < n
  ·obtain ⟨x,g,o,hx,rfl,hg,hcl⟩ := (HL.out.below HW.out).get k hlt
   have c1 := tx_cell hcl
   have hxs := HZ.out x (List.mem_of_getElem? hx)
   have hlk : (L.take k).length = k := by rw [List.length_take,HL.out.1]; omega
   have hjs := jok_snoc (L.take k) x HJ.out
   rw [← take_at hx,hlk] at hjs
   obtain ⟨h1,h2,h3⟩ := jok_iff.1 HJ.out
   have hsl : (slashed (L.take (k + 1))).length = (slashed (L.take k)).length + (1 + x.size) := by
    rw [take_at hx,slashed_snoc,List.length_append,List.length_cons,NamesKm.txt_size]
    omega
   obtain ⟨B,hB⟩ : ∃ b,jok (L.take (k + 1)) = b := ⟨_,rfl⟩
   rw [hB] at hjs
   have HS := hQ_ (step_calls x w0.heap.size p q k (slashed (L.take k)).length B w0 wr HK.out HW.out HW.out.size (by omega) (by omega) hxs hjs.symm)
   rw [← hsl] at HS
   have HBB := hQ_ hB
   clear hcl hx hlk hjs h1 h2 h3 hsl hB hxs
   cases B with
   | true =>
     go_wp2_with (go_at_call 162; refine HS.out.mono ?_; rintro e w' ⟨rfl,hc',hb'⟩; have HC' := hQ_ hc'; have HB' := hQ_ hb'; clear hc' hb')
     go_roundw
     case rel => exact ⟨k + 1,by omega,by go_num,HBB,HC',HB'⟩
     case measure => simp [intOf]; omega
   | false =>
     have HF := hQ_ (jok_take HBB.out)
     go_wp2_with (go_at_call 162; refine HS.out.mono ?_; rintro e w' ⟨rfl,hc',hb'⟩; have HB' := hQ_ hb'; clear hc' hb')
     go_ret
     exact ⟨by rw [HF.out]; rfl,HB'.out⟩
  ·obtain rfl : k = n := by omega
   have hL : L.take k = L := List.take_of_length_le (by rw [HL.out.1]; exact Nat.le_refl _)
   have HT : Hid (jok L = true) := hQ_ (by rw [← hL]; exact HJ.out)
   clear hL
   go_wp2_with fail
   go_ret
   exact ⟨by rw [HT.out]; rfl,HW.out⟩
theorem pre_is (s : ByteArray) (h : 0 < s.size) : Lib.hasPrefix s.data.toList [47] = decide ((txt s).getD 0 0 = 47) := by
 obtain ⟨⟨l⟩⟩ := s
 match l,h with
 | b :: r,_ =>
   show ([47] : List UInt8).isPrefixOf (b :: r) = decide ((b.toNat : Int) = 47)
   rw [pre_47,Bool.eq_iff_iff,beq_iff_eq,decide_eq_true_eq]
   constructor
   ·rintro rfl
    rfl
   ·intro e
    apply UInt8.toNat_inj.1
    show 47 = b.toNat
    omega
theorem pre_calls (s : ByteArray) (b : Bool) (h : 0 < s.size) (hb : decide ((txt s).getD 0 0 = 47) = b) (w : World) : Calls Tryz.prog 142 #[.string s,.string ⟨#[47]⟩] w fun e w' => e = .returned (.bool b) ∧ w = w' :=
 (Any.strings_HasPrefix preLay s ⟨#[47]⟩ w).mono fun e w' ⟨he,hw⟩ => ⟨he.trans (by rw [← hb,← pre_is s h]),hw.symm⟩
theorem split_calls (s : ByteArray) (w : World) (hx : Mx w) (hs : s.size ≤ 255) : Calls Tryz.prog 143 #[.string (s.extract 1 s.size),.string ⟨#[47]⟩] w fun e w' => e = .returned (.slice (some ⟨w.heap.size,0,none⟩) (namesOf s).length (namesOf s).length) ∧ w.alloc (.cells ((namesOf s).map Value.string).toArray 9) = w' := by
 obtain ⟨m,hm⟩ := hx
 have := Any.strings_Split { splitLay with } splitLay.i9 (s.extract 1 s.size) sl m w (by simp; omega) hm (by decide)
 have e := names_split s
 have e2 : Lib.countB (s.extract 1 s.size) sl + 1 = (namesOf s).length := names_count s
 rw [e,e2] at this
 exact this.mono fun e w' ⟨h1,h2⟩ => ⟨h1,h2.symm⟩
theorem flat_tx (L : List ByteArray) : L.map Value.string = flat txE L := by
 induction L with
 | nil => rfl
 | cons a r ih =>
   rw [List.map_cons,ih]
   rfl
theorem split_small (s : ByteArray) (w : World) (h : s.size = 0 ∨ 255 < s.size ∨ (0 < s.size ∧ s.size ≤ 255 ∧ ¬ (txt s).getD 0 0 = 47) ∨ s = ⟨#[47]⟩) (hn : s.size ≤ 100000) : Calls Tryz.prog 119 #[.string s] w (SplE s w) := by
 have HO := hQ_ (So.none_ (w := w))
 have HB := hQ_ (Below.refl w.heap.size w)
 have hs : (s.size : Int) ≤ 9223372036854775807 := by omega
 rcases h with h | h | ⟨h0,h1,h⟩ | h
 ·obtain rfl : s = ⟨#[]⟩ := KeysM.empty_of h
  have HK := hQ_ (spl_no (.inl h))
  clear h hn hs
  go_enter Tryz.func119,Tryz.ntmps119
  go_wp2_with fail
  go_ret2
  exact SplE.of HK.out HO.out HB.out
 ·have HK := hQ_ (spl_no (s := s) (.inr h))
  have n1 := KeysU.list_ne (s := s) (by omega)
  have n2 : s.toList.isEmpty = false := by rw [List.isEmpty_eq_false_iff]; exact n1
  have n3 : (s.toList == []) = false := by rw [beq_eq_false_iff_ne]; exact n1
  have d : decide ((255 : Int) < (s.size : Int)) = true := by simp; omega
  clear h hn
  go_enter Tryz.func119,Tryz.ntmps119
  go_wp2_with fail
  go_ret2
  exact SplE.of HK.out HO.out HB.out
 ·have HK := hQ_ (spl_15 (s := s) (by omega) h)
  have n1 := KeysU.list_ne h0
  have n2 : s.toList.isEmpty = false := by rw [List.isEmpty_eq_false_iff]; exact n1
  have n3 : (s.toList == []) = false := by rw [beq_eq_false_iff_ne]; exact n1
  have d : decide ((255 : Int) < (s.size : Int)) = false := by simp; omega
  have HP := hQ_ (pre_calls s false h0 (decide_eq_false h) w)
  clear h hn h0 h1
  go_enter Tryz.func119,Tryz.ntmps119
  go_wp2_with (go_at_call 142; refine HP.out.mono ?_; rintro e w' ⟨rfl,rfl⟩)
  go_ret2
  exact SplE.of HK.out HO.out HB.out
 ·subst h
  have HK : Hid (spl ⟨#[47]⟩ = ([],0)) := hQ_ (by decide +kernel)
  have HP := hQ_ (pre_calls ⟨#[47]⟩ true (by decide) (by decide +kernel) w)
  clear hn hs
  go_enter Tryz.func119,Tryz.ntmps119
  go_wp2_with (go_at_call 142; refine HP.out.mono ?_; rintro e w' ⟨rfl,rfl⟩)
  go_ret2
  exact SplE.of HK.out HO.out HB.out
theorem names_small {s : ByteArray} (h2 : 2 ≤ s.size) (h : s.size ≤ 255) (h47 : (txt s).getD 0 0 = 47) : (namesOf s).length ≤ 255 ∧ ∀ x ∈ namesOf s,x.size ≤ 255 := by
 have hs : slashed (namesOf s) = txt s := by rw [NamesM.slashed_map,NamesM.txt_names,NamesM.fields_back,← NamesM.txt_cons (by omega) h47]
 have hl := slashed_bounds (namesOf s)
 rw [hs,NamesKm.txt_size] at hl
 exact ⟨by omega,fun x hx => by have := hl.2 x hx; omega⟩
theorem split_long (s : ByteArray) (w : World) (hx : Mx w) (h2 : 2 ≤ s.size) (h3 : s.size ≤ 255) (h47 : (txt s).getD 0 0 = 47) : Calls Tryz.prog 119 #[.string s] w (SplE s w) := by
 have hs : (s.size : Int) ≤ 9223372036854775807 := by omega
 have HK := hQ_ (spl_yes h2 h3 h47)
 have HSM := hQ_ (names_small h2 h3 h47)
 have n1 := KeysU.list_ne (s := s) (by omega)
 have n2 : s.toList.isEmpty = false := by rw [List.isEmpty_eq_false_iff]; exact n1
 have n3 : (s.toList == []) = false := by rw [beq_eq_false_iff_ne]; exact n1
 have d : decide ((255 : Int) < (s.size : Int)) = false := by simp; omega
 have n4 : (s.toList == [47]) = false := by
  rw [beq_eq_false_iff_ne]
  intro e
  have := KeysU.list_is _ e
  rw [this] at h2
  exact absurd h2 (by decide)
 have HP := hQ_ (pre_calls s true (by omega) (decide_eq_true h47) w)
 have HS := hQ_ (split_calls s w hx h3)
 have k1 : (1 : Int) ≤ (s.size : Int) := by omega
 have k2 : 1 ≤ s.size := by omega
 have HON := hQ_ (So.none_ (w := w))
 obtain ⟨L,hL⟩ : ∃ L,namesOf s = L := ⟨_,rfl⟩
 rw [hL] at HK HSM HS
 obtain ⟨n,hnl⟩ : ∃ n,L.length = n := ⟨_,rfl⟩
 have HSO := hQ_ (So.lit txE 9 w L (L.map Value.string).toArray n hnl (by rw [← flat_tx]) (Nat.le_refl _) (by have := HSM.out.1; unfold maxLen; omega))
 have HB1 := hQ_ (below_lit (w := w) (L.map Value.string).toArray 9)
 rw [hnl] at HS HSM
 clear hx h2 h3 h47 hL hnl
 obtain ⟨W,hW⟩ : ∃ W,w.alloc (.cells (L.map Value.string).toArray 9) = W := ⟨_,rfl⟩
 rw [hW] at HS HSO HB1
 have HNX := hQ_ (next_calls W)
 have HA := hQ_ (fun (p q : Nat) (w2 : World) (hc : Cnt w2 W.heap.size p q 0 0) (hb : Below W.heap.size W w2) => all_calls (some ⟨w.heap.size,0,none⟩) n n p q L W w2 HSO.out.sl hc hb (by have := HSM.out.1; omega) (fun x hx => by have := HSM.out.2 x hx; omega))
 clear hW
 obtain ⟨B,hB⟩ : ∃ b,jok L = b := ⟨_,rfl⟩
 rw [hB] at HA HK
 clear hB
 cases B with
 | true =>
   have HK2 : Hid (spl s = (L,0)) := hQ_ HK.out
   clear HK
   go_enter Tryz.func119,Tryz.ntmps119
   go_wp2_with (first
    | (go_at_call 142; refine HP.out.mono ?_; rintro e w' ⟨rfl,rfl⟩)
    | (go_at_call 143; refine HS.out.mono ?_; rintro e w' ⟨rfl,rfl⟩)
    | (go_at_call 145; refine HNX.out.mono ?_; rintro e w2 ⟨p,q,rfl,hc2,hb2⟩; have HC2 := hQ_ hc2; have HB2 := hQ_ hb2; clear hc2 hb2)
    | (go_at_call 144; refine (HA.out _ _ _ HC2.out HB2.out).mono ?_; rintro e w3 ⟨rfl,hb3⟩; have HB3 := hQ_ hb3; clear hb3))
   go_ret2
   exact SplE.of HK2.out (HSO.out.below HB3.out) (keeps HB1.out HB3.out)
 | false =>
   have HK2 : Hid (spl s = ([],17)) := hQ_ HK.out
   clear HK
   go_enter Tryz.func119,Tryz.ntmps119
   go_wp2_with (first
    | (go_at_call 142; refine HP.out.mono ?_; rintro e w' ⟨rfl,rfl⟩)
    | (go_at_call 143; refine HS.out.mono ?_; rintro e w' ⟨rfl,rfl⟩)
    | (go_at_call 145; refine HNX.out.mono ?_; rintro e w2 ⟨p,q,rfl,hc2,hb2⟩; have HC2 := hQ_ hc2; have HB2 := hQ_ hb2; clear hc2 hb2)
    | (go_at_call 144; refine (HA.out _ _ _ HC2.out HB2.out).mono ?_; rintro e w3 ⟨rfl,hb3⟩; have HB3 := hQ_ hb3; clear hb3))
   go_ret2
   exact SplE.of HK2.out (HON.out.below (keeps HB1.out HB3.out)) (keeps HB1.out HB3.out)
theorem split_ok : SplitOk := by
 intro s w hn hx
 by_cases h0 : s.size = 0
 ·exact split_small s w (.inl h0) hn
 by_cases h1 : 255 < s.size
 ·exact split_small s w (.inr (.inl h1)) hn
 by_cases h2 : (txt s).getD 0 0 = 47
 ·by_cases h3 : s.size = 1
  ·refine split_small s w (.inr (.inr (.inr ?_))) hn
   exact one_47 h3 h2
  ·exact split_long s w hx (by omega) (by omega) h2
 ·exact split_small s w (.inr (.inr (.inl ⟨by omega,by omega,h2⟩))) hn
theorem eq_calls (A B : Option Addr) (n c m c2 : Nat) (L M : List ByteArray) (w : World) (hl : Sl txE w A n L) (hm : Sl txE w B m M) (h : n < m) (hn : n ≤ 100000) : Calls Tryz.prog 159 #[.slice A n c,.slice B n c2] w fun e w' => e = .returned (.bool (decide (L = M.take n))) ∧ Below w.heap.size w w' := by
 rcases Nat.eq_zero_or_pos n with h0 | h0
 ·subst h0
  have hL : L = [] := List.eq_nil_of_length_eq_zero hl.1
  subst hL
  exact (Any.slices_Equal_string_empty eqLay A B c 0 c2 w (by decide)).mono fun e w' ⟨he,hw⟩ => ⟨he.trans (by simp),hw ▸ Below.refl _ _⟩
 ·obtain ⟨x,b,o,_,rfl,hb,_⟩ := hl.get 0 h0
  obtain ⟨y,b2,o2,_,rfl,hb2,_⟩ := hm.get 0 (by omega)
  have ln := hl.1
  have lm := hm.1
  refine (Any.slices_Equal_string eqLay b o n c b2 o2 n c2 L M w (by omega) (by omega) (by omega) (by omega) (fun j hj => ?_) (fun j hj => ?_)).mono fun e w' ⟨he,q,hw⟩ => ⟨he.trans ?_,hw ▸ below_drewN (Below.refl _ _) q⟩
  ·rw [List.getD_eq_getElem?_getD,List.getElem?_eq_getElem hj]
   exact tx_cell (hl.at_ j _ (List.getElem?_eq_getElem hj)).2
  ·rw [List.getD_eq_getElem?_getD,List.getElem?_eq_getElem hj]
   exact tx_cell (hm.at_ j _ (List.getElem?_eq_getElem hj)).2
  ·rw [List.take_of_length_le (by omega : L.length ≤ n)]
theorem under_ok : UnderOk := by
 intro A B n c m c2 L M w hl hm hnc hmc hn hmm
 by_cases h : n < m
 ·have hu : under L M = decide (L = M.take n) := by
   rw [under_yes (by rw [hl.1,hm.1]; exact h),hl.1]
   by_cases e : L = M.take n
   ·rw [decide_eq_true e,decide_eq_true e.symm]
   ·rw [decide_eq_false e,decide_eq_false (fun h => e h.symm)]
  have HE := hQ_ (eq_calls A B n c m c2 L M w hl hm (by omega) hn)
  rw [← hu] at HE
  have d : decide ((n : Int) < (m : Int)) = true := by rw [decide_eq_true_eq]; omega
  have d' : decide (n < m) = true := decide_eq_true h
  have k1 : (0 : Int) ≤ (n : Int) := by omega
  have k2 : (n : Int) ≤ (c2 : Int) := by omega
  have k3 : n ≤ c2 := by omega
  clear hu hl hm hmc hnc h
  go_enter Tryz.func136,Tryz.ntmps136
  go_wp2_with (go_at_call 159; refine HE.out.mono ?_; rintro e w2 ⟨rfl,hb2⟩; have HB2 := hQ_ hb2; clear hb2)
  go_ret
  exact ⟨rfl,HB2.out⟩
 ·have hu : under L M = false := under_no (by rw [hl.1,hm.1]; exact h)
  have d : decide ((n : Int) < (m : Int)) = false := by rw [decide_eq_false_iff_not]; omega
  have d' : decide (n < m) = false := decide_eq_false h
  rw [hu]
  clear hu hl hm hmc hnc h
  go_enter Tryz.func136,Tryz.ntmps136
  go_wp2_with fail
  go_ret
  exact ⟨rfl,Below.refl _ _⟩
end Go.Proofs.YtogdjbhjgbnicaaGreatDoor.NamesK
namespace Go.Proofs.YtogdjbhjgbnicaaGreatDoor.WalkKb
open Go.RowKit
open Byte PackM KeysM KeysS KeysV KeysB KeysD TreeM TreeR ViewM NodeM NodeG NamesM NamesL NamesK WalkM WalkF WalkKm Lst Tx Chg TreeL ViewL WalkL WalkV Vat WalkKa
open WalkD (blk_chg)
open Own hiding keeps
variable {Rep : RepT}
theorem sp_key {p : Pr} (h : (sp p.key).letter ≠ 0) : p.key.size ≤ 37 := by
 rcases sp_ways p.key with h1 | ⟨_,h2⟩ | ⟨_,_,h2⟩ | ⟨_,h2⟩
 ·rw [h1] at h
  exact absurd rfl h
 ·omega
 ·omega
 ·omega
def ListR (Rep : RepT) (v : Value) (s : Vs) (dir : Int) (S D : Nat → Prop) (w : World) (e : Ending) (w' : World) : Prop := ∃ A m c a b S' D',e = .returned (.slice A m c) ∧ So txE 9 w' w.heap.size (.slice A m c) m (listM dir s.shown) ∧ Rep w' v (s.ranged a b) S' D' ∧ Stp S D S' D' w w'
theorem list_calls (hS : Stays Rep) (hX : RangeOk Rep) {w : World} {v : Value} {s : Vs} {S D : Nat → Prop} (dir : Int) (hr : Rep w v s S D) (hl : Lim s) (h0 : 0 ≤ dir) (h1 : dir ≤ 4294967295) (hk : ∀ p ∈ s.shown,(sp p.key).letter ≠ 0) (hn : s.shown.length ≤ 100000) :
 Calls Tryz.prog 117 #[v,.int .u32 dir] w (ListR Rep v s dir S D w) := by
 have A0 := hQ_ (At.start hr)
 have HE := hQ_ (fun w => entries_small dir w h0 h1)
 have HK := hQ_ hk
 have HS := hQ_ hS
 have HL := hQ_ hl
 have HX := hQ_ hX
 obtain ⟨M,hM⟩ : ∃ M,s.shown.filter (entB dir) = M := ⟨_,rfl⟩
 have HMF := hQ_ hM
 have HM2 : Hid (∀ p ∈ M,entB dir p = true ∧ p.key.size ≤ 100000 ∧ (sp p.key).letter = 69) := hQ_ (fun p hp => by
  rw [← hM] at hp
  have h3 := List.mem_filter.1 hp
  have h4 := sp_key (HK.out p h3.1)
  have h5 := h3.2
  unfold entB at h5
  rw [Bool.and_eq_true,decide_eq_true_eq] at h5
  exact ⟨h3.2,by omega,h5.1⟩)
 have hLM : listM dir s.shown = M.map (fun p => (sp p.key).name) := by rw [list_ent,hM]
 unfold ListR
 rw [hLM]
 clear hr hl hS hX hk hM hLM
 go_enter Tryz.func117,Tryz.ntmps117
 go_wp2_with fail
 refine (HE.out _).mono ?_
 rintro e w1 ⟨a,b,rfl,hrg,ha,hb,hb1⟩
 have A1 := hQ_ (A0.out.below HS.out hb1)
 have HRG : Hid (rangeL a b s.shown = s.shown.filter (entB dir)) := hQ_ (range_ent hrg.out HK.out)
 clear hb1 hrg
 go_wp2_with fail
 refine (HX.out a b A1.out.rep HL.out (by omega) (by omega)).mono ?_
 rintro e w2 ⟨⟨ra,rn,rc⟩,S2,D2,rfl,hsl,hnew,hr2,st2⟩
 rw [rangeOf_is,HRG.out,HMF.out] at hsl
 dsimp only at hsl hnew
 have A2 := hQ_ (A1.out.step HS.out hr2 st2)
 have HLR := hQ_ hsl
 have hrn : rn ≤ 100000 := by
  rw [← hsl.1]
  rw [← HMF.out]
  exact Nat.le_trans (List.length_filter_le _ _) hn
 have HZ2 := hQ_ A2.out.size
 clear hsl hnew hr2 st2 ha hb
 go_wp2_with fail
 go_loopw [5,19] (fun v i wr => ∃ (A' : Option Addr) (m c' k : Nat) (N : List ByteArray),v = .slice A' m c' ∧ i = .int .i64 k ∧ k ≤ rn ∧ m = k ∧ So txE 9 wr w2.heap.size (.slice A' m c') m N ∧ Hid (N = (M.take k).map (fun p => (sp p.key).name)) ∧ Below w2.heap.size w2 wr) (fun _ i _ => rn - (intOf i).toNat)
 case atStart => exact ⟨none,0,0,0,[],rfl,rfl,Nat.zero_le _,rfl,So.nil_ _ _ _ _,hQ_ rfl,Below.refl _ _⟩
 case round =>
  obtain ⟨A',m,c',k,N,rfl,rfl,hk,rfl,hso,HN,hbel⟩ := hrel
  by_cases hlt : m < rn
  ·obtain ⟨x,g,o,hx,rfl,hg,hcl⟩ := (HLR.out.below hbel).get m hlt
   obtain ⟨c1,c2,c3,hcc⟩ := pair_cells hcl
   have hmx := HM2.out x (List.mem_of_getElem? hx)
   have HNX := hQ_ (map_nx hx (fun p => (sp p.key).name))
   have HSP := hQ_ (fun w => split_calls x.key w hmx.2.1)
   unfold SpE at HSP
   have HSO := hQ_ hso
   have HBL := hQ_ hbel
   have hlet := hmx.2.2
   obtain ⟨xk,xv,xg⟩ := x
   dsimp only at *
   have HN2 : Hid (N ++ [(sp xk).name] = (M.take (m + 1)).map (fun p => (sp p.key).name)) := hQ_ (by rw [HNX.out,HN.out])
   rw [hlet] at HSP
   clear HNX hcl hx hso hbel hmx hlet
   generalize (sp xk).ino = X2 at *
   generalize (sp xk).name = X3 at *
   generalize (sp xk).n = X4 at *
   have hbs := HBL.out.size
   go_wp2_with ((with_reducible refine pick (some 22) ?_); refine wpList_load_mid rfl 64 _ rfl g (o + m * 3) rfl _ _ hcc Tryz.underlying64 rfl info_pair3 ?_)
   refine (HSP.out _).mono ?_
   rintro e w3 ⟨rfl,hb3⟩
   have HB3 := hQ_ (Own.keeps (HBL.out.alloc hbs (.cells #[.string xk,.string xv,.bool xg] 64)) hb3)
   have HSO3 := hQ_ ((HSO.out.below ((Below.refl _ _).alloc (Nat.le_refl _) (.cells #[.string xk,.string xv,.bool xg] 64))).below hb3)
   clear hb3
   go_wp2_with ((with_reducible refine pick (some 36) ?_); refine wpList_append_any txE 9 rfl _ _ _ rfl Tryz.underlying44 info_tx rfl w2.heap.size _ m N rfl (HSO3.out.below (bW_)) _ 1 1 [X3] rfl (Sl.new_ txE _ _ X3 _ rfl) (fun h => by cases h) (m + 1) rfl _ rfl (by unfold maxLen; omega) (by omega) (by have := HB3.out.size; simp; omega) ?_; intro v' w' hown' hg' hat'; obtain ⟨A3,c3',rfl,_⟩ := Tx.So.head hown')
   have hal := HB3.out.alloc HB3.out.size (.cells #[.string X3] 9)
   have HBB : Hid (Below w2.heap.size w2 w') := hQ_ (hal.grown hg' hal.size (fun k hk => (HSO3.out.lt hk).1))
   clear hal
   go_roundw
   case rel => exact ⟨A3,m + 1,c3',m + 1,_,rfl,by go_num,by omega,rfl,hown',HN2,HBB.out⟩
   case measure => simp [intOf]; omega
  ·obtain rfl : m = rn := by omega
   have HBL := hQ_ hbel
   have HSO := hQ_ hso
   have hML : M.take m = M := List.take_of_length_le (by rw [HLR.out.1]; exact Nat.le_refl _)
   have HNM : Hid (N = M.map (fun p => (sp p.key).name)) := hQ_ (by rw [HN.out,hML])
   have A3 := hQ_ (A2.out.below HS.out hbel)
   clear hML hbel hso
   go_wp2_with fail
   go_ret
   exact ⟨A',m,c',a,b,S2,D2,rfl,by rw [← HNM.out]; exact HSO.out.lower HZ2.out,A3.out.rep,A3.out.st⟩
theorem list_ok (hS : Stays Rep) (hX : RangeOk Rep) (hn : ∀ ⦃w v s S D⦄,Rep w v s S D → Lim s → s.shown.length ≤ 100000) : ListOk Rep := by
 intro w v s S D dir hr hl h0 h1 hk
 refine (list_calls hS hX dir hr hl h0 h1 hk (hn hr hl)).mono ?_
 rintro e w' ⟨A,m,c,a,b,S',D',he,hso,hr',st⟩
 exact ⟨A,m,c,a,b,S',D',he,hso.sl,hr',st⟩
def spotV (x : Spot) : Value := .agg #[.int .u32 x.dir,.string x.name,.int .u32 x.ino,.int .u8 x.node.k,.int .u32 x.node.l,.int .u32 x.node.s,.int .u32 x.node.p]
theorem info_spot : (Tryz.prog.info? 150).map (·.size) = some 7 := by kernel_rfl
theorem root_calls (hS : Stays Rep) (hG : GetOk Rep) (hB : Small Rep) {w : World} {v : Value} {s : Vs} {S D : Nat → Prop} (hr : Rep w v s S D) (hl : Lim s) :
 Calls Tryz.prog 120 #[v] w (WalkL.Stepped Rep v (s.read (kI 1)) (spotV ⟨0,⟨#[]⟩,1,(loadM s.shown 1).1⟩) S D w) := by
 have R0 := hQ_ (Blk.new_ w #[.int .u32 0,.string ⟨#[]⟩,.int .u32 0,.int .u8 0,.int .u32 0,.int .u32 0,.int .u32 0] 150)
 have hb0 := bX_ R0.out
 have A0 := hQ_ ((At.start hr).own hS hb0 (Nat.le_refl _) (by simp))
 have HLD := hQ_ (fun (w1 : World) (S D : Nat → Prop) (hr : Rep w1 v s S D) => load_calls hS hG hB 1 hr hl (by omega) (by omega))
 unfold LoadV at HLD
 unfold spotV
 dsimp only
 generalize (loadM s.shown 1).2 = bb at *
 generalize (loadM s.shown 1).1 = xx at *
 obtain ⟨xk,xl,xz,xp⟩ := xx
 dsimp only at HLD ⊢
 generalize s.read (kI 1) = s1 at *
 have HS := hQ_ hS
 clear hb0 hr hl hS hG hB
 go_enter Tryz.func120,Tryz.ntmps120
 go_wp2_with fail
 refine (HLD.out _ _ _ A0.out.rep).mono ?_
 rintro e w2 ⟨S2,D2,rfl,hr2,st2⟩
 have A2 := hQ_ (A0.out.step HS.out hr2 st2)
 have R2 := hQ_ (A0.out.blk HS.out R0.out (.inr rfl) st2)
 have I3 := hQ_ (Blk.new_ w2 #[.int .u8 xk,.int .u32 xl,.int .u32 xz,.int .u32 xp] 46)
 have hb3 := bX_ I3.out
 have A3 := hQ_ (A2.out.below HS.out hb3)
 have R3 := hQ_ (R2.out.below hb3)
 clear hr2 st2 hb3
 go_wp2_with (first
  | ((with_reducible refine pick (some 10) ?_); refine load_blk rfl 46 _ rfl w2.heap.size rfl 46 _ _ I3.out Tryz.underlying46 rfl info_ino ?_)
  | ((with_reducible refine pick none ?_); refine store_blk rfl 150 _ _ rfl w.heap.size #[.int .u32 0,.string ⟨#[]⟩,.int .u32 1,.int .u8 xk,.int .u32 xl,.int .u32 xz,.int .u32 xp] rfl rfl 150 _ R3.out info_spot rfl (by simp [Value.oneCell']) ?_; intro w5 hk5 hg5))
 have A5 := A3.out.stored HS.out R3.out (.inr rfl) (by decide) hg5
 exact bodyPost_ret (v := .agg #[.int .u32 0,.string ⟨#[]⟩,.int .u32 1,.int .u8 xk,.int .u32 xl,.int .u32 xz,.int .u32 xp]) (results_cell_row rfl _ _ w.heap.size 150 _ (0,0) _ rfl hk5 Tryz.underlying150 rfl info_spot) rfl ⟨S2,D2,rfl,A5.rep,A5.st⟩
theorem spot_a {w0 W : World} {S0 D0 M S D : Nat → Prop} {v : Value} {s : Vs} {r : Nat} {x0 x1 : Value} (hS : Stays Rep) (A : At Rep w0 S0 D0 M W v s S D) (R : Blk W r #[x0,x1,.int .u32 0,.int .u8 0,.int .u32 0,.int .u32 0,.int .u32 0] 150) (hr : M r) (i k l z p : Value) :
 At Rep w0 S0 D0 M ((((((W.setCell ⟨r,2,none⟩ i).setCell ⟨r,3,none⟩ k).setCell ⟨r,4,none⟩ l).setCell ⟨r,5,none⟩ z).setCell ⟨r,6,none⟩ p).drew) v s S D ∧ Blk ((((((W.setCell ⟨r,2,none⟩ i).setCell ⟨r,3,none⟩ k).setCell ⟨r,4,none⟩ l).setCell ⟨r,5,none⟩ z).setCell ⟨r,6,none⟩ p).drew) r #[x0,x1,i,k,l,z,p] 150 ∧ Chg (fun b => b = r) W ((((((W.setCell ⟨r,2,none⟩ i).setCell ⟨r,3,none⟩ k).setCell ⟨r,4,none⟩ l).setCell ⟨r,5,none⟩ z).setCell ⟨r,6,none⟩ p).drew) := by
 have h1 := R.set_ 2 i
 have h2 := h1.set_ 3 k
 have h3 := h2.set_ 4 l
 have h4 := h3.set_ 5 z
 have h5 := h4.set_ 6 p
 exact ⟨(((((A.set hS R hr (by decide) 2 i).set hS h1 hr (by decide) 3 k).set hS h2 hr (by decide) 4 l).set hS h3 hr (by decide) 5 z).set hS h4 hr (by decide) 6 p).below hS ((Below.refl _ _).drew),h5.drew,((((((Chg.refl (fun b => b = r) W).setCell (.inl rfl) _).setCell (.inl rfl) _).setCell (.inl rfl) _).setCell (.inl rfl) _).setCell (.inl rfl) _).drew⟩
theorem within_calls (hS : Stays Rep) (hG : GetOk Rep) (hB : Small Rep) {w : World} {v : Value} {s : Vs} {S D : Nat → Prop} (dir : Int) (name : ByteArray) (hr : Rep w v s S D) (hl : Lim s) (hl2 : s.rd.length ≤ 19900) (h0 : 0 ≤ dir) (h1 : dir ≤ 4294967295) (hn : name.size ≤ 100000) :
 Calls Tryz.prog 121 #[v,.int .u32 dir,.string name] w (WalkL.Stepped Rep v (readW s dir name) (spotV (withinM s.shown dir name)) S D w) := by
 have hb0 := bN_ w (.cells #[.int .u32 0,.string ⟨#[]⟩,.int .u32 0,.int .u8 0,.int .u32 0,.int .u32 0,.int .u32 0] 150)
 obtain ⟨W0,hW0⟩ : ∃ W0,(w.alloc (.cells #[.int .u32 0,.string ⟨#[]⟩,.int .u32 0,.int .u8 0,.int .u32 0,.int .u32 0,.int .u32 0] 150)).alloc (.cells #[.int .u32 dir,.string name,.int .u32 0,.int .u8 0,.int .u32 0,.int .u32 0,.int .u32 0] 150) = W0 := ⟨_,rfl⟩
 have A0 : At Rep w S D (fun b => (False ∨ b = w.heap.size) ∨ b = w.heap.size + 1) W0 v s S D := by
  rw [← hW0]
  exact ((At.start hr).own hS hb0 (Nat.le_refl _) (by simp)).own hS (bW_) (by simp) (by simp)
 have R0 : Blk W0 w.heap.size #[.int .u32 0,.string ⟨#[]⟩,.int .u32 0,.int .u8 0,.int .u32 0,.int .u32 0,.int .u32 0] 150 := by
  rw [← hW0]
  exact (Blk.new_ _ _ _).alloc _
 have N0 : Blk W0 (w.heap.size + 1) #[.int .u32 dir,.string name,.int .u32 0,.int .u8 0,.int .u32 0,.int .u32 0,.int .u32 0] 150 := by
  rw [← hW0]
  have := Blk.new_ (w.alloc (.cells #[.int .u32 0,.string ⟨#[]⟩,.int .u32 0,.int .u8 0,.int .u32 0,.int .u32 0,.int .u32 0] 150)) #[.int .u32 dir,.string name,.int .u32 0,.int .u8 0,.int .u32 0,.int .u32 0,.int .u32 0] 150
  simpa using this
 have A0 := hQ_ A0
 have R0 := hQ_ R0
 have N0 := hQ_ N0
 have HW0 := hQ_ hW0
 have HCH := hQ_ (fun (w1 : World) (S D : Nat → Prop) (hr : Rep w1 v s S D) => child_ok hS hG hB dir name hr hl h0 h1 hn)
 have hcb := child_bd s.shown dir name
 have HLD := hQ_ (fun (w1 : World) (S D : Nat → Prop) (hr : Rep w1 v (s.read (kE dir name)) S D) => load_calls hS hG hB (childM s.shown dir name).1 hr ⟨hl.base,by have := putP_len ⟨kE dir name,⟨#[]⟩,false⟩ s.rd; show (putP _ s.rd).length ≤ 20000; omega,hl.rg⟩ hcb.1 hcb.2)
 rw [show (s.read (kE dir name)).shown = s.shown from rfl] at HLD
 have HS := hQ_ hS
 have hns : (name.size : Int) ≤ 100000 := by omega
 unfold readW withinM
 unfold LoadV at HLD
 generalize hK : childM s.shown dir name = cc at *
 obtain ⟨ci,cb⟩ := cc
 dsimp only at HCH HLD hcb ⊢
 generalize hQ : loadM s.shown ci = ll at *
 obtain ⟨⟨xk,xl,xz,xp⟩,lb⟩ := ll
 dsimp only at HLD ⊢
 generalize s.read (kE dir name) = s1 at *
 generalize s1.read (kI ci) = s2 at *
 clear hb0 hr hl hl2 hS hG hB hW0 hK hQ
 cases cb with
 | false =>
   simp only [Bool.false_and,Bool.false_eq_true,if_false]
   unfold spotV
   dsimp only [ino0]
   go_enter Tryz.func121,Tryz.ntmps121
   go_wp2_with fail
   rw [HW0.out]
   refine (HCH.out _ _ _ A0.out.rep).mono ?_
   rintro e w2 ⟨S2,D2,rfl,hr2,st2⟩
   have A2 := hQ_ (A0.out.step HS.out hr2 st2)
   have R2 := hQ_ (A0.out.blk HS.out R0.out (.inl (.inr rfl)) st2)
   have N2 := hQ_ (A0.out.blk HS.out N0.out (.inr rfl) st2)
   clear hr2 st2
   go_wp2_with (first
    | ((with_reducible refine pick (some 24) ?_); refine load_blk rfl 150 _ rfl (w.heap.size + 1) rfl 150 _ _ N2.out Tryz.underlying150 rfl info_spot ?_)
    | ((with_reducible refine pick none ?_); refine store_blk rfl 150 _ _ rfl w.heap.size #[.int .u32 dir,.string name,.int .u32 0,.int .u8 0,.int .u32 0,.int .u32 0,.int .u32 0] rfl rfl 150 _ R2.out info_spot rfl (by simp [Value.oneCell']) ?_; intro w5 hk5 hg5))
   have A5 := A2.out.stored HS.out R2.out (.inl (.inr rfl)) (by decide) hg5
   exact bodyPost_ret (v := .agg #[.int .u32 dir,.string name,.int .u32 0,.int .u8 0,.int .u32 0,.int .u32 0,.int .u32 0]) (results_cell_row rfl _ _ w.heap.size 150 _ (0,0) _ rfl hk5 Tryz.underlying150 rfl info_spot) rfl ⟨S2,D2,rfl,A5.rep,A5.st⟩
 | true =>
   simp only [Bool.true_and,if_true]
   have hci := hcb
   cases lb with
   | false =>
     simp only [Bool.false_eq_true,if_false]
     unfold spotV
     dsimp only [ino0]
     go_enter Tryz.func121,Tryz.ntmps121
     go_wp2_with fail
     rw [HW0.out]
     refine (HCH.out _ _ _ A0.out.rep).mono ?_
     rintro e w2 ⟨S2,D2,rfl,hr2,st2⟩
     have A2 := hQ_ (A0.out.step HS.out hr2 st2)
     have R2 := hQ_ (A0.out.blk HS.out R0.out (.inl (.inr rfl)) st2)
     have N2 := hQ_ (A0.out.blk HS.out N0.out (.inr rfl) st2)
     clear hr2 st2
     go_wp2_with fail
     refine (HLD.out _ _ _ A2.out.rep).mono ?_
     rintro e w3 ⟨S3,D3,rfl,hr3,st3⟩
     have A3 := hQ_ ((A2.out.step HS.out hr3 st3).below HS.out ((Below.refl _ _).alloc (Nat.le_refl _) (.cells #[.int .u8 xk,.int .u32 xl,.int .u32 xz,.int .u32 xp] 46)))
     have R3 := hQ_ ((A2.out.blk HS.out R2.out (.inl (.inr rfl)) st3).alloc (.cells #[.int .u8 xk,.int .u32 xl,.int .u32 xz,.int .u32 xp] 46))
     have N3 := hQ_ ((A2.out.blk HS.out N2.out (.inr rfl) st3).alloc (.cells #[.int .u8 xk,.int .u32 xl,.int .u32 xz,.int .u32 xp] 46))
     clear hr3 st3
     go_wp2_with (first
      | ((with_reducible refine pick (some 36) ?_); refine load_blk rfl 150 _ rfl (w.heap.size + 1) rfl 150 _ _ N3.out Tryz.underlying150 rfl info_spot ?_)
      | ((with_reducible refine pick none ?_); refine store_blk rfl 150 _ _ rfl w.heap.size #[.int .u32 dir,.string name,.int .u32 0,.int .u8 0,.int .u32 0,.int .u32 0,.int .u32 0] rfl rfl 150 _ R3.out info_spot rfl (by simp [Value.oneCell']) ?_; intro w5 hk5 hg5))
     have A5 := A3.out.stored HS.out R3.out (.inl (.inr rfl)) (by decide) hg5
     exact bodyPost_ret (v := .agg #[.int .u32 dir,.string name,.int .u32 0,.int .u8 0,.int .u32 0,.int .u32 0,.int .u32 0]) (results_cell_row rfl _ _ w.heap.size 150 _ (0,0) _ rfl hk5 Tryz.underlying150 rfl info_spot) rfl ⟨S3,D3,rfl,A5.rep,A5.st⟩
   | true =>
     simp only [if_true]
     unfold spotV
     dsimp only
     go_enter Tryz.func121,Tryz.ntmps121
     go_wp2_with fail
     rw [HW0.out]
     refine (HCH.out _ _ _ A0.out.rep).mono ?_
     rintro e w2 ⟨S2,D2,rfl,hr2,st2⟩
     have A2 := hQ_ (A0.out.step HS.out hr2 st2)
     have R2 := hQ_ (A0.out.blk HS.out R0.out (.inl (.inr rfl)) st2)
     have N2 := hQ_ (A0.out.blk HS.out N0.out (.inr rfl) st2)
     clear hr2 st2
     go_wp2_with fail
     refine (HLD.out _ _ _ A2.out.rep).mono ?_
     rintro e w3 ⟨S3,D3,rfl,hr3,st3⟩
     obtain ⟨W4,hW4⟩ : ∃ W4,w3.alloc (.cells #[.int .u8 xk,.int .u32 xl,.int .u32 xz,.int .u32 xp] 46) = W4 := ⟨_,rfl⟩
     have hb4 : Below w3.heap.size w3 W4 := by rw [← hW4]; exact bW_
     have A4 := hQ_ ((A2.out.step HS.out hr3 st3).below HS.out hb4)
     have R4 := hQ_ ((A2.out.blk HS.out R2.out (.inl (.inr rfl)) st3).below hb4)
     have N4 := hQ_ ((A2.out.blk HS.out N2.out (.inr rfl) st3).below hb4)
     have I4 : Blk W4 w3.heap.size #[.int .u8 xk,.int .u32 xl,.int .u32 xz,.int .u32 xp] 46 := by rw [← hW4]; exact Blk.new_ _ _ _
     have HW4 := hQ_ hW4
     obtain ⟨i0,i1,i2,i3⟩ : W4.cell? ⟨w3.heap.size,0,none⟩ = some (.int .u8 xk) ∧ W4.cell? ⟨w3.heap.size,1,none⟩ = some (.int .u32 xl) ∧ W4.cell? ⟨w3.heap.size,2,none⟩ = some (.int .u32 xz) ∧ W4.cell? ⟨w3.heap.size,3,none⟩ = some (.int .u32 xp) := ⟨I4.cell 0,I4.cell 1,I4.cell 2,I4.cell 3⟩
     obtain ⟨n2,n3,n4,n5,n6⟩ : W4.cell? ⟨w.heap.size + 1,2,none⟩ = some (.int .u32 0) ∧ W4.cell? ⟨w.heap.size + 1,3,none⟩ = some (.int .u8 0) ∧ W4.cell? ⟨w.heap.size + 1,4,none⟩ = some (.int .u32 0) ∧ W4.cell? ⟨w.heap.size + 1,5,none⟩ = some (.int .u32 0) ∧ W4.cell? ⟨w.heap.size + 1,6,none⟩ = some (.int .u32 0) := ⟨N4.out.cell 2,N4.out.cell 3,N4.out.cell 4,N4.out.cell 5,N4.out.cell 6⟩
     obtain ⟨f2,f3,f4,f5,f6⟩ : W4.frozen? ⟨w.heap.size + 1,2,none⟩ = false ∧ W4.frozen? ⟨w.heap.size + 1,3,none⟩ = false ∧ W4.frozen? ⟨w.heap.size + 1,4,none⟩ = false ∧ W4.frozen? ⟨w.heap.size + 1,5,none⟩ = false ∧ W4.frozen? ⟨w.heap.size + 1,6,none⟩ = false := ⟨N4.out.frozen 2,N4.out.frozen 3,N4.out.frozen 4,N4.out.frozen 5,N4.out.frozen 6⟩
     have hne : ¬ w3.heap.size = w.heap.size + 1 := by have := N2.out.lt; have := st3.chg.size; omega
     have hne' : ¬ w.heap.size + 1 = w3.heap.size := fun h => hne h.symm
     clear hr3 st3 hb4 I4 hW4
     go_wp2_with fail
     rw [HW4.out]
     go_region_law (fail)
     all_goals first
      | (obtain ⟨A5,N5,C5⟩ := spot_a HS.out A4.out N4.out (.inr rfl) (.int .u32 ci) (.int .u8 xk) (.int .u32 xl) (.int .u32 xz) (.int .u32 xp)
         have R5 := blk_chg R4.out C5 (by omega)
         have A5 := hQ_ A5
         have N5 := hQ_ N5
         have R5 := hQ_ R5
         clear C5
         go_wp2_with (first
          | ((with_reducible refine pick (some 36) ?_); refine load_blk rfl 150 _ rfl (w.heap.size + 1) rfl 150 _ _ N5.out Tryz.underlying150 rfl info_spot ?_)
          | ((with_reducible refine pick none ?_); refine store_blk rfl 150 _ _ rfl w.heap.size #[.int .u32 dir,.string name,.int .u32 ci,.int .u8 xk,.int .u32 xl,.int .u32 xz,.int .u32 xp] rfl rfl 150 _ R5.out info_spot rfl (by simp [Value.oneCell']) ?_; intro w5 hk5 hg5))
         have A6 := A5.out.stored HS.out R5.out (.inl (.inr rfl)) (by decide) hg5
         exact bodyPost_ret (v := .agg #[.int .u32 dir,.string name,.int .u32 ci,.int .u8 xk,.int .u32 xl,.int .u32 xz,.int .u32 xp]) (results_cell_row rfl _ _ w.heap.size 150 _ (0,0) _ rfl hk5 Tryz.underlying150 rfl info_spot) rfl ⟨S3,D3,rfl,A6.rep,A6.st⟩)
      | (obtain ⟨A5,N5,C5⟩ := spot_b HS.out A4.out N4.out (.inr rfl) (.int .u32 ci) (.int .u8 xk) (.int .u32 xl) (.int .u32 xz) (.int .u32 xp)
         have R5 := blk_chg R4.out C5 (by omega)
         have A5 := hQ_ A5
         have N5 := hQ_ N5
         have R5 := hQ_ R5
         clear C5
         go_wp2_with (first
          | ((with_reducible refine pick (some 36) ?_); refine load_blk rfl 150 _ rfl (w.heap.size + 1) rfl 150 _ _ N5.out Tryz.underlying150 rfl info_spot ?_)
          | ((with_reducible refine pick none ?_); refine store_blk rfl 150 _ _ rfl w.heap.size #[.int .u32 dir,.string name,.int .u32 ci,.int .u8 xk,.int .u32 xl,.int .u32 xz,.int .u32 xp] rfl rfl 150 _ R5.out info_spot rfl (by simp [Value.oneCell']) ?_; intro w5 hk5 hg5))
         have A6 := A5.out.stored HS.out R5.out (.inl (.inr rfl)) (by decide) hg5
         exact bodyPost_ret (v := .agg #[.int .u32 dir,.string name,.int .u32 ci,.int .u8 xk,.int .u32 xl,.int .u32 xz,.int .u32 xp]) (results_cell_row rfl _ _ w.heap.size 150 _ (0,0) _ rfl hk5 Tryz.underlying150 rfl info_spot) rfl ⟨S3,D3,rfl,A6.rep,A6.st⟩)
def FindP (Rep : RepT) (v : Value) (s : Vs) (path : ByteArray) (S D : Nat → Prop) (w : World) (y : Spot) (er : Int) (e : Ending) (w' : World) : Prop := ∃ s' S' D',e = .returned (.tuple #[spotV y,.int .i64 er]) ∧ Rep w' v s' S' D' ∧ Stp S D S' D' w w' ∧ FindR s path s'
theorem FindP.of {v : Value} {s : Vs} {path : ByteArray} {S D : Nat → Prop} {w w' : World} {y : Spot} {er : Int} {s' : Vs} {M S' D' : Nat → Prop} (A : At Rep w S D M w' v s' S' D') (h : FindR s path s') : FindP Rep v s path S D w y er (.returned (.tuple #[spotV y,.int .i64 er])) w' := ⟨s',S',D',rfl,A.rep,A.st,h⟩
theorem find_no_calls (hS : Stays Rep) {w : World} {v : Value} {s : Vs} {S D : Nat → Prop} (path : ByteArray) (hr : Rep w v s S D) (hn : path.size ≤ 100000) (hmx : Mx w) (hs : (spl path).2 ≠ 0) :
 Calls Tryz.prog 97 #[v,.string path] w (FindP Rep v s path S D w spot0 (spl path).2) := by
 have R0 := hQ_ (Blk.new_ w #[.int .u32 0,.string ⟨#[]⟩,.int .u32 0,.int .u8 0,.int .u32 0,.int .u32 0,.int .u32 0] 150)
 have hb0 := bX_ R0.out
 have A0 := hQ_ ((At.start hr).own hS hb0 (Nat.le_refl _) (by simp))
 have HSP := hQ_ (split_ok path _ hn (hmx.below hb0))
 unfold NamesR.SplE at HSP
 have HS := hQ_ hS
 have HFR := hQ_ (fndr_no (s := s) hs)
 have d1 : ((spl path).2 != 0) = true := by simpa using hs
 generalize (spl path).2 = er at *
 generalize (spl path).1 = L at *
 clear hb0 hr hS hs hmx
 go_enter Tryz.func97,Tryz.ntmps97
 go_wp2_with fail
 refine HSP.out.mono ?_
 rintro e w1 ⟨A,m,c,rfl,hso,hb1⟩
 have A1 := hQ_ (A0.out.below HS.out hb1)
 have R1 := hQ_ (R0.out.below hb1)
 clear hso hb1
 go_wp2_with ((with_reducible refine pick none ?_); refine store_blk rfl 150 _ _ rfl w.heap.size #[.int .u32 0,.string ⟨#[]⟩,.int .u32 0,.int .u8 0,.int .u32 0,.int .u32 0,.int .u32 0] rfl rfl 150 _ R1.out info_spot rfl (by simp [Value.oneCell']) ?_; intro w5 hk5 hg5)
 have A5 := A1.out.stored HS.out R1.out (.inr rfl) (by decide) hg5
 exact bodyPost_ret (v := .tuple #[.agg #[.int .u32 0,.string ⟨#[]⟩,.int .u32 0,.int .u8 0,.int .u32 0,.int .u32 0,.int .u32 0],.int .i64 er]) (results_row_tmp rfl _ _ w.heap.size 150 _ (0,0) _ rfl _ rfl hk5 Tryz.underlying150 rfl info_spot) rfl (FindP.of A5 HFR.out)
theorem find_yes_calls (hS : Stays Rep) (hG : GetOk Rep) (hB : Small Rep) {w : World} {v : Value} {s : Vs} {S D : Nat → Prop} (path : ByteArray) (hr : Rep w v s S D) (hl : Lim s) (hl2 : s.rd.length ≤ 19000) (hn : path.size ≤ 100000) (hmx : Mx w) (hs : (spl path).2 = 0) (y : Spot) (er : Int) (hf : findM s.shown path = (y,er)) :
 Calls Tryz.prog 97 #[v,.string path] w (FindP Rep v s path S D w y er) := by
 have R0 := hQ_ (Blk.new_ w #[.int .u32 0,.string ⟨#[]⟩,.int .u32 0,.int .u8 0,.int .u32 0,.int .u32 0,.int .u32 0] 150)
 have hb0 := bX_ R0.out
 have A0 := hQ_ ((At.start hr).own hS hb0 (Nat.le_refl _) (by simp))
 have HSP := hQ_ (split_ok path _ hn (hmx.below hb0))
 unfold NamesR.SplE at HSP
 have HS := hQ_ hS
 have HRT := hQ_ (fun (w1 : World) (S D : Nat → Prop) (hr : Rep w1 v s S D) => root_calls hS hG hB hr hl)
 have HWI := hQ_ (fun (w1 : World) (S D : Nat → Prop) (s1 : Vs) (dir : Int) (name : ByteArray) (hr : Rep w1 v s1 S D) (hl : Lim s1) (h2 : s1.rd.length ≤ 19900) (h0 : 0 ≤ dir) (h1 : dir ≤ 4294967295) (hn : name.size ≤ 100000) => within_calls hS hG hB dir name hr hl h2 h0 h1 hn)
 have HFS := hQ_ (fnd_start s s.shown)
 have HSM := hQ_ (spl_small path)
 have HFR := hQ_ (fun (s' : Vs) (x : Spot) (k : Nat) (h : Fnd s s' x k) (hk : k ≤ 16) (hy : er = 0 → y = x) => fndr_ok h hk hs hf hy)
 have HFM : Hid (findL s.shown ⟨0,⟨#[]⟩,1,(loadM s.shown 1).1⟩ (spl path).1 = (y,er)) := hQ_ (by rw [← find_yes hs]; exact hf)
 have HLM := hQ_ hl
 have HL2 := hQ_ hl2
 rw [hs] at HSP
 generalize hL : (spl path).1 = L at *
 generalize hX : (loadM s.shown 1).1 = xn at *
 obtain ⟨xk,xl,xz,xp⟩ := xn
 clear hb0 hr hl hl2 hS hG hB hs hmx hf hL hX
 go_enter Tryz.func97,Tryz.ntmps97
 go_wp2_with fail
 refine HSP.out.mono ?_
 rintro e w1 ⟨A,m,c,rfl,hso,hb1⟩
 have hmine : ∀ b,A = some ⟨b,0,none⟩ → (w.alloc (.cells #[.int .u32 0,.string ⟨#[]⟩,.int .u32 0,.int .u8 0,.int .u32 0,.int .u32 0,.int .u32 0] 150)).heap.size ≤ b ∧ b < w1.heap.size := fun b hb => hso.lt (g := b) (by rw [hb]; rfl)
 have hform : ∀ b o,A = some ⟨b,o,none⟩ → A = some ⟨b,0,none⟩ := fun b o hb => by
  rcases hso.form with ⟨h1,_⟩ | ⟨g,cap,h1,_⟩
  ·injection h1 with h1
   rw [hb] at h1
   cases h1
  ·injection h1 with h1
   rw [h1] at hb ⊢
   injection hb with hb
   injection hb with h2 h3
   rw [h2]
 have A1 := hQ_ (A0.out.owns HS.out hb1 hmine)
 have R1 := hQ_ (R0.out.below hb1)
 have HSL := hQ_ hso.sl
 have HFO := hQ_ hform
 have hm16 : m ≤ 16 := by rw [← hso.1]; exact HSM.out.1
 clear hso hb1 hmine hform
 go_wp2_with fail
 refine (HRT.out _ _ _ A1.out.rep).mono ?_
 rintro e w2 ⟨S2,D2,rfl,hr2,st2⟩
 have hb3 := bN_ w2 (.cells #[.int .u32 0,.string ⟨#[]⟩,.int .u32 1,.int .u8 xk,.int .u32 xl,.int .u32 xz,.int .u32 xp] 150)
 have hA2 := A1.out.step HS.out hr2 st2
 have HLT : Hid (w.heap.size < w2.heap.size) := hQ_ (hA2.mine _ (.inl (.inr rfl))).2.1
 have HLA : Hid (∀ b,A = some ⟨b,0,none⟩ → b < w2.heap.size) := hQ_ (fun b hb => (hA2.mine b (.inr hb)).2.1)
 have A3 := hQ_ (hA2.own HS.out hb3 (Nat.le_refl _) (by simp))
 have R3 := hQ_ ((A1.out.blk HS.out R1.out (.inl (.inr rfl)) st2).below hb3)
 have SL3 := hQ_ ((A1.out.sl HS.out HSL.out (fun b o e => .inr (HFO.out b o e)) st2).below hb3)
 have X3 := hQ_ (Blk.new_ w2 #[.int .u32 0,.string ⟨#[]⟩,.int .u32 1,.int .u8 xk,.int .u32 xl,.int .u32 xz,.int .u32 xp] 150)
 clear hr2 st2 hb3 hA2
 unfold spotV
 dsimp only
 go_wp2_with fail
 go_loopw [24] (fun i wr => ∃ (k : Nat) (x : Spot) (s' : Vs) (S' D' : Nat → Prop),k ≤ m ∧ i = .int .i64 k ∧ Hid (findL s.shown x (L.drop k) = (y,er)) ∧ Hid (At Rep w S D (fun b => ((False ∨ b = w.heap.size) ∨ A = some ⟨b,0,none⟩) ∨ b = w2.heap.size) wr v s' S' D') ∧ Hid (Blk wr w.heap.size #[.int .u32 0,.string ⟨#[]⟩,.int .u32 0,.int .u8 0,.int .u32 0,.int .u32 0,.int .u32 0] 150) ∧ Hid (Blk wr w2.heap.size #[.int .u32 x.dir,.string x.name,.int .u32 x.ino,.int .u8 x.node.k,.int .u32 x.node.l,.int .u32 x.node.s,.int .u32 x.node.p] 150) ∧ Hid (Sl txE wr A m L) ∧ Hid (Fnd s s' x k)) (fun i _ => m - (intOf i).toNat)
 case atStart => exact ⟨0,⟨0,⟨#[]⟩,1,⟨xk,xl,xz,xp⟩⟩,s.read (kI 1),S2,D2,Nat.zero_le _,rfl,HFM,A3,R3,X3,SL3,HFS⟩
 case round =>
  obtain ⟨k,x,s',S',D',hk,rfl,HF,HA,HR,HX,HSl,HFN⟩ := hrel
  by_cases hlt : k < m
  ·obtain ⟨name,g,o,hx,rfl,hg,hcl⟩ := HSl.out.get k hlt
   have c1 := tx_cell hcl
   have hnm : name.size ≤ 32 := HSM.out.2 name (List.mem_of_getElem? hx)
   have hfa := findl_at (L := s.shown) (x := x) hx
   rw [HF.out] at hfa
   obtain ⟨xd,xnm,xi,⟨nk,nl,ns,np⟩⟩ := x
   dsimp only at hfa HX
   have hbd := HFN.out.bd
   have b3 : 0 ≤ xi := hbd.i0
   have b4 : xi ≤ 4294967295 := hbd.i1
   obtain ⟨x2,x3⟩ : wr.cell? ⟨w2.heap.size,2,none⟩ = some (.int .u32 xi) ∧ wr.cell? ⟨w2.heap.size,3,none⟩ = some (.int .u8 nk) := ⟨HX.out.cell 2,HX.out.cell 3⟩
   have HFA := hQ_ hfa
   have hns : (name.size : Int) ≤ 32 := by omega
   clear hcl hx hfa hbd
   by_cases h0 : xi = 0
   ·subst h0
    have he := HFA.out
    rw [if_pos rfl] at he
    injection he with he1 he2
    subst he1
    subst he2
    have HP := hQ_ (HFR.out _ _ _ HFN.out (by omega) (fun h => absurd h (by decide)))
    clear b3 b4
    go_wp2_with ((with_reducible refine pick none ?_); refine store_blk rfl 150 _ _ rfl w.heap.size #[.int .u32 0,.string ⟨#[]⟩,.int .u32 0,.int .u8 0,.int .u32 0,.int .u32 0,.int .u32 0] rfl rfl 150 _ HR.out info_spot rfl (by simp [Value.oneCell']) ?_; intro w5 hk5 hg5)
    have A5 := HA.out.stored HS.out HR.out (.inl (.inl (.inr rfl))) (by decide) hg5
    exact bodyPost_ret (v := .tuple #[.agg #[.int .u32 0,.string ⟨#[]⟩,.int .u32 0,.int .u8 0,.int .u32 0,.int .u32 0,.int .u32 0],.int .i64 10]) (results_row_tmp rfl _ _ w.heap.size 150 _ (0,0) _ rfl _ rfl hk5 Tryz.underlying150 rfl info_spot) rfl (FindP.of A5 HP.out)
   ·have d1 : (xi == 0) = false := by rw [beq_eq_false_iff_ne]; exact h0
    by_cases h2 : nk ≠ 2
    ·have he := HFA.out
     rw [if_neg h0,if_pos h2] at he
     injection he with he1 he2
     subst he1
     subst he2
     have HP := hQ_ (HFR.out _ _ _ HFN.out (by omega) (fun h => absurd h (by decide)))
     have d2 : (nk != 2) = true := by simpa using h2
     clear b3 b4 h0 h2
     go_wp2_with ((with_reducible refine pick none ?_); refine store_blk rfl 150 _ _ rfl w.heap.size #[.int .u32 0,.string ⟨#[]⟩,.int .u32 0,.int .u8 0,.int .u32 0,.int .u32 0,.int .u32 0] rfl rfl 150 _ HR.out info_spot rfl (by simp [Value.oneCell']) ?_; intro w5 hk5 hg5)
     have A5 := HA.out.stored HS.out HR.out (.inl (.inl (.inr rfl))) (by decide) hg5
     exact bodyPost_ret (v := .tuple #[.agg #[.int .u32 0,.string ⟨#[]⟩,.int .u32 0,.int .u8 0,.int .u32 0,.int .u32 0,.int .u32 0],.int .i64 12]) (results_row_tmp rfl _ _ w.heap.size 150 _ (0,0) _ rfl _ rfl hk5 Tryz.underlying150 rfl info_spot) rfl (FindP.of A5 HP.out)
    ·have h2' : nk = 2 := Classical.byContradiction h2
     subst h2'
     have HN2 : Hid (findL s.shown (withinM s.shown xi name) (L.drop (k + 1)) = (y,er)) := hQ_ (by
      have he := HFA.out
      rw [if_neg h0,if_neg h2] at he
      exact he.symm)
     have HF2 : Hid (Fnd s (readW s' xi name) (withinM s.shown xi name) (k + 1)) := hQ_ (by
      have := HFN.out.step h0 hnm
      rw [HFN.out.shown] at this
      exact this)
     have hlim : Lim s' := ⟨by rw [HFN.out.base]; exact HLM.out.base,by have := HFN.out.lim HL2.out (by omega); omega,by rw [HFN.out.rg]; exact HLM.out.rg⟩
     have hwc := HWI.out wr S' D' s' xi name HA.out.rep hlim (HFN.out.lim HL2.out (by omega)) b3 b4 (by omega)
     rw [HFN.out.shown] at hwc
     unfold spotV at hwc
     have HWC := hQ_ hwc
     generalize withinM s.shown xi name = x' at *
     generalize readW s' xi name = s'' at *
     obtain ⟨yd,ynm,yi,⟨yk,yl,ys,yp⟩⟩ := x'
     dsimp only at HWC
     clear h0 h2 hlim hwc b3 b4 hnm HFA HFN
     go_wp2_with fail
     refine HWC.out.mono ?_
     rintro e w5 ⟨S5,D5,rfl,hr5,st5⟩
     have A5 := hQ_ (HA.out.step HS.out hr5 st5)
     have R5 := hQ_ (HA.out.blk HS.out HR.out (.inl (.inl (.inr rfl))) st5)
     have X5 := hQ_ (HA.out.blk HS.out HX.out (.inr rfl) st5)
     have SL5 := hQ_ (HA.out.sl HS.out HSl.out (fun b o e => .inl (.inr (HFO.out b o e))) st5)
     clear hr5 st5
     go_wp2_with ((with_reducible refine pick none ?_); refine store_blk rfl 150 _ _ rfl w2.heap.size #[.int .u32 yd,.string ynm,.int .u32 yi,.int .u8 yk,.int .u32 yl,.int .u32 ys,.int .u32 yp] rfl rfl 150 _ X5.out info_spot rfl (by simp [Value.oneCell']) ?_; intro w6 hk6 hg6)
     have hne : w.heap.size ≠ w2.heap.size := fun h => by have := HLT.out; omega
     have A6 := hQ_ (A5.out.stored HS.out X5.out (.inr rfl) (by decide) hg6)
     have R6 := hQ_ (R5.out.grown hg6 hne)
     have SL6 : Hid (Sl txE w6 (some ⟨g,o,none⟩) m L) := hQ_ (Chg.Sl.chg SL5.out (Chg.of_grown (S := fun b => b = w2.heap.size) hg6 (fun k e => .inl (by injection e with e; exact e.symm))) (fun b o e h => by have := HLA.out b (HFO.out b o e); omega))
     have K6 := hQ_ hk6
     clear hk6 hg6 hne
     go_wp2_with fail
     go_roundw
     case rel => exact ⟨k + 1,⟨yd,ynm,yi,⟨yk,yl,ys,yp⟩⟩,s'',S5,D5,by omega,by go_num,HN2,A6,R6,K6,SL6,HF2⟩
     case measure => simp [intOf]; omega
  ·obtain rfl : k = m := by omega
   have he := HF.out
   rw [findl_end s.shown x (by rw [HSl.out.1]; exact Nat.le_refl _)] at he
   injection he with he1 he2
   subst he1
   subst he2
   have HP := hQ_ (HFR.out _ _ _ HFN.out hm16 (fun _ => rfl))
   obtain ⟨xd,xnm,xi,⟨nk,nl,ns,np⟩⟩ := x
   dsimp only at HX
   go_wp2_with (first
    | ((with_reducible refine pick (some 45) ?_); refine load_blk rfl 150 _ rfl w2.heap.size rfl 150 _ _ HX.out Tryz.underlying150 rfl info_spot ?_)
    | ((with_reducible refine pick none ?_); refine store_blk rfl 150 _ _ rfl w.heap.size #[.int .u32 xd,.string xnm,.int .u32 xi,.int .u8 nk,.int .u32 nl,.int .u32 ns,.int .u32 np] rfl rfl 150 _ HR.out info_spot rfl (by simp [Value.oneCell']) ?_; intro w5 hk5 hg5))
   have A5 := HA.out.stored HS.out HR.out (.inl (.inl (.inr rfl))) (by decide) hg5
   exact bodyPost_ret (v := .tuple #[.agg #[.int .u32 xd,.string xnm,.int .u32 xi,.int .u8 nk,.int .u32 nl,.int .u32 ns,.int .u32 np],.int .i64 0]) (results_row_tmp rfl _ _ w.heap.size 150 _ (0,0) _ rfl _ rfl hk5 Tryz.underlying150 rfl info_spot) rfl (FindP.of A5 HP.out)
end Go.Proofs.YtogdjbhjgbnicaaGreatDoor.WalkKb
namespace Go.Proofs.YtogdjbhjgbnicaaGreatDoor.WalkE
open Go.RowKit
open Byte KeysM KeysR TreeM ViewM NodeM NamesM WalkM WalkF Lst Chg TreeR TreeL TreeG TreeH ViewR ViewL ViewP WalkL WalkD
open NamesL (Mx)
open Own hiding keeps
variable {Rep : RepT}
def FindOk (Rep : RepT) : Prop := ∀ ⦃w v s S D⦄ (path : ByteArray),Rep w v s S D → Lim s → s.rd.length ≤ 19000 → path.size ≤ 100000 → Mx w → Calls Tryz.prog 97 #[v,.string path] w fun e w' => ∃ s' S' D',
 e = .returned (.tuple #[.agg #[.int .u32 (findM s.shown path).1.dir,.string (findM s.shown path).1.name,.int .u32 (findM s.shown path).1.ino,.int .u8 (findM s.shown path).1.node.k,.int .u32 (findM s.shown path).1.node.l,.int .u32 (findM s.shown path).1.node.s,.int .u32 (findM s.shown path).1.node.p],.int .i64 (findM s.shown path).2]) ∧
 Rep w' v s' S' D' ∧ Stp S D S' D' w w' ∧ FindR s path s'
end Go.Proofs.YtogdjbhjgbnicaaGreatDoor.WalkE
namespace Go.Proofs.YtogdjbhjgbnicaaGreatDoor.ViewKn
open Go.RowKit
open Byte KeysM TreeM TreeB TreeD TreeE TreeF TreeJ TreeQ TreeG TreeH Own Lst TreeR TreeL Chg
variable {w w' : World} {v : Value} {L : List Pr}
theorem top_nil (w : World) : Calls Tryz.prog 74 #[.pointer none] w fun e w' => e = .returned (.pointer none) ∧ w = w' := by
 go_enter Tryz.func74,Tryz.ntmps74
 go_wp2_with fail
 go_ret
 exact ⟨rfl,rfl⟩
theorem get_nil (k : ByteArray) (w : World) : Calls Tryz.prog 42 #[.pointer none,.string k] w fun e w' => e = .returned (GotV none) ∧ w = w' := by
 go_enter Tryz.func42,Tryz.ntmps42
 go_wp2_with (go_at_call 74; refine (top_nil _).mono ?_; rintro e w1 ⟨rfl,rfl⟩)
 go_loopg [6] 0 (fun m n wr => n = .pointer none ∧ wr = w)
 case atStart => exact ⟨rfl,rfl⟩
 case round =>
  obtain ⟨rfl,rfl⟩ := hrel
  go_wp2_with fail
  go_ret2
  exact ⟨rfl,rfl⟩
theorem set_nil (k x : ByteArray) (w : World) : Calls Tryz.prog 148 #[.pointer none,.string k,.string x] w (VnR (Tt.no.set ⟨k,x,false⟩) w) := by
 have HN : Hid (Nd w Tt.no none) := hQ_ rfl
 have HS : Hid (Tt.no.sz ≤ 60000) := hQ_ (Nat.zero_le _)
 go_enter Tryz.func148,Tryz.ntmps148
 go_wp2_with (first
  | (go_at_call 74; refine (top_nil _).mono ?_; rintro e w1 ⟨rfl,rfl⟩)
  | (go_at_call 164; refine (set_calls ⟨k,x,false⟩ Tt.no none _ HS.out HN.out).mono ?_; rintro e w2 ⟨A2,rfl,hn2,hb2⟩; have HN2 := hQ_ hn2; have HB2 := hQ_ hb2; clear hn2 hb2))
 go_ret
 exact ⟨_,_,rfl,vn_new HN2.out,HB2.out.alloc HB2.out.size _⟩
theorem cut_nil (k : ByteArray) (w : World) : Calls Tryz.prog 158 #[.pointer none,.string k] w fun e w' => e = .returned (.pointer none) ∧ w = w' := by
 go_enter Tryz.func158,Tryz.ntmps158
 go_wp2_with (go_at_call 42; refine (get_nil _ _).mono ?_; rintro e w1 ⟨rfl,rfl⟩; dsimp only [GotV])
 go_ret
 exact ⟨rfl,rfl⟩
theorem len_nil (w : World) : Calls Tryz.prog 72 #[.pointer none] w fun e w' => e = .returned (.int .i64 (0 : Nat)) ∧ w = w' := by
 have HN : Hid (Nd w Tt.no none) := hQ_ rfl
 go_enter Tryz.func72,Tryz.ntmps72
 go_wp2_with (first
  | (go_at_call 74; refine (top_nil _).mono ?_; rintro e w1 ⟨rfl,rfl⟩)
  | (go_at_call 96; refine (size_calls Tt.no none _ HN.out 0 rfl).mono ?_; rintro e w1 ⟨rfl,rfl⟩))
 go_ret
 exact ⟨rfl,rfl⟩
theorem range_nil (x y : ByteArray) (w : World) : Calls Tryz.prog 44 #[.pointer none,.string x,.string y] w (Made [] w) := by
 have HN : Hid (Nd w Tt.no none) := hQ_ rfl
 have HR : Hid (Rise Tt.no.ino) := hQ_ List.Pairwise.nil
 have G := hQ_ (gather_calls x y Tt.no none w w.heap.size (.slice none 0 0) [] HR.out HN.out (So.nil_ _ _ _ _) (Nat.le_refl _) (by decide))
 go_enter Tryz.func44,Tryz.ntmps44
 go_wp2_with (first
  | (go_at_call 74; refine (top_nil _).mono ?_; rintro e w1 ⟨rfl,rfl⟩)
  | (go_at_call 77; refine G.out.mono ?_; rintro e w2 ⟨v,rfl,ho,hb2,_,_⟩; have HO := hQ_ ho; have HB2 := hQ_ hb2; clear ho hb2))
 go_ret
 exact ⟨_,rfl,HO.out,HB2.out⟩
def TN (w : World) (v : Value) (L : List Pr) : Prop := (v = .pointer none ∧ L = []) ∨ ∃ h,TRep w v L h
theorem TN.of {h : Nat} (r : TRep w v L h) : TN w v L := .inr ⟨h,r⟩
theorem TN.keep (h : TN w v L) (hk : Kept w w') : TN w' v L := by
 rcases h with h | ⟨n,h⟩
 ·exact .inl h
 ·exact .inr ⟨n,tkeep h hk⟩
theorem TN.below (h : TN w v L) (hb : Below w.heap.size w w') : TN w' v L := h.keep (Kept.of_below hb)
theorem TN.form (h : TN w v L) : ∃ A,v = .pointer A := by
 rcases h with ⟨rfl,_⟩ | ⟨n,h⟩
 ·exact ⟨_,rfl⟩
 ·obtain ⟨b,rfl,_⟩ := tform h
  exact ⟨_,rfl⟩
theorem tnset (k x : ByteArray) (h : TN w v L) (hl : L.length ≤ 50000) : Calls Tryz.prog 148 #[v,.string k,.string x] w fun e w' => ∃ v',e = .returned v' ∧ TN w' v' (putL k x L) ∧ Below w.heap.size w w' := by
 rcases h with ⟨rfl,rfl⟩ | ⟨n,h⟩
 ·refine (set_nil k x w).mono ?_
  rintro e w' ⟨b',A',rfl,hv',hb'⟩
  exact ⟨_,rfl,.of (h := (Tt.no.set ⟨k,x,false⟩).ht) ⟨b',A',_,rfl,hv',Tt.ino_set .no k x List.Pairwise.nil,rise_put List.Pairwise.nil k x,(Tt.set_avl .no _ trivial).1,rfl⟩,hb'⟩
 ·refine (tset k x h hl).mono ?_
  rintro e w' ⟨v',h',rfl,hr,hb⟩
  exact ⟨v',rfl,.of hr,hb⟩
theorem tncut (k : ByteArray) (h : TN w v L) (hl : L.length ≤ 50000) : Calls Tryz.prog 158 #[v,.string k] w fun e w' => ∃ v',e = .returned v' ∧ TN w' v' (cutL k L) ∧ Below w.heap.size w w' := by
 rcases h with ⟨rfl,rfl⟩ | ⟨n,h⟩
 ·refine (cut_nil k w).mono ?_
  rintro e w' ⟨rfl,rfl⟩
  exact ⟨_,rfl,.inl ⟨rfl,rfl⟩,Below.refl _ _⟩
 ·refine (tcut k h hl).mono ?_
  rintro e w' ⟨v',h',rfl,hr,hb⟩
  exact ⟨v',rfl,.of hr,hb⟩
theorem tnget (k : ByteArray) (h : TN w v L) (hl : L.length ≤ 50000) : Calls Tryz.prog 42 #[v,.string k] w fun e w' => e = .returned (GotV (getL k L)) ∧ w = w' := by
 rcases h with ⟨rfl,rfl⟩ | ⟨n,h⟩
 ·exact get_nil k w
 ·exact tget k h hl
theorem tnlen (h : TN w v L) (hl : L.length ≤ 50000) : Calls Tryz.prog 72 #[v] w fun e w' => e = .returned (.int .i64 (L.length : Nat)) ∧ w = w' := by
 rcases h with ⟨rfl,rfl⟩ | ⟨n,h⟩
 ·exact len_nil w
 ·exact tlen h hl
theorem tnrange (x y : ByteArray) (h : TN w v L) (hl : L.length ≤ 50000) : Calls Tryz.prog 44 #[v,.string x,.string y] w (Made (rangeL x y L) w) := by
 rcases h with ⟨rfl,rfl⟩ | ⟨n,h⟩
 ·exact range_nil x y w
 ·exact trange x y h hl
end Go.Proofs.YtogdjbhjgbnicaaGreatDoor.ViewKn
namespace Go.Proofs.YtogdjbhjgbnicaaGreatDoor.ViewKr
open Go.RowKit
open Byte KeysM TreeM ViewM ViewKm ViewKn Own Lst Chg TreeR TreeL TreeG TreeH Ho ViewR ViewS
theorem tl_ne {a b : ByteArray} (h : a ≠ b) : a.toList ≠ b.toList := by simpa using TreeQ.neq_false h
theorem eq2 (a b c d : ByteArray) (w : World) : (Op.equalIn 10000 97 (.agg #[.string a,.string b]) (.agg #[.string c,.string d])).run Tryz.prog w = .ok (decide (a = c) && decide (b = d)) w := by
 have u5 := Tryz.underlying9
 have a5 := Tryz.isAgg9
 have z5 := Tryz.sizeOf9
 rw [show (10000 : Nat) = 9999 + 1 from rfl,Op.equalIn]
 simp only [Sem.run_bind,run_underlying Tryz.underlying97,Result.andThen_ok]
 simp only [Std.Legacy.Range.forIn_eq_forIn_range',Std.Legacy.Range.size,Nat.sub_zero,Nat.add_sub_cancel,Nat.div_one,List.range'_succ,List.range'_zero,List.forIn_cons,List.forIn_nil]
 go_simp
 by_cases h1 : a = c
 ·subst h1
  by_cases h2 : b = d
  ·subst h2
   simp
  ·simp [h2,tl_ne h2]
 ·by_cases h2 : b = d
  ·subst h2
   simp [h1,tl_ne h1]
  ·simp [h1,h2,tl_ne h1]
theorem rg_cells {w : World} {b o k : Nat} {x : ByteArray × ByteArray} (h : w.rangeAt b (o + k * rgE.size) (rgE.cells x)) : w.cell? ⟨b,o + k * 2,none⟩ = some (.string x.1) ∧ w.cell? ⟨b,o + k * 2 + 1,none⟩ = some (.string x.2) := ⟨h 0 _ rfl,h 1 _ rfl⟩
def HasR (x y : ByteArray) (L : List (ByteArray × ByteArray)) (w : World) (e : Ending) (w' : World) : Prop := ∃ i : Int,e = .returned (.int .i64 i) ∧ decide (0 ≤ i) = hasR x y L ∧ Below w.heap.size w w'
theorem index_calls (A : Option Addr) (n c : Nat) (L : List (ByteArray × ByteArray)) (x y : ByteArray) (w : World) (hl : Sl rgE w A n L) (hn : n ≤ 100000) :
 Calls Tryz.prog 76 #[.slice A n c,.agg #[.string x,.string y]] w (HasR x y L w) := by
 have HL := hQ_ hl
 clear hl
 have HX := hQ_ (Blk.new_ w #[.string x,.string y] 97)
 have hb0 := bX_ HX.out
 have HB0 := hQ_ hb0
 clear hb0
 go_enter Tryz.func76,Tryz.ntmps76
 go_wp2
 go_loopw [8] (fun i wr => ∃ k : Nat,k ≤ n ∧ i = .int .i64 k ∧ Hid (∀ j p,j < k → L[j]? = some p → ¬ (p.1 = x ∧ p.2 = y)) ∧ Hid (Below (w.alloc (.cells #[.string x,.string y] 97)).heap.size (w.alloc (.cells #[.string x,.string y] 97)) wr)) (fun i _ => n - (intOf i).toNat)
 case atStart => exact ⟨0,Nat.zero_le _,rfl,hQ_ (fun j p hj => by omega),hQ_ (Below.refl _ _)⟩
 case round =>
  obtain ⟨k,hk,rfl,HNO,HB⟩ := hrel
  by_cases hlt : k < n
  ·obtain ⟨p,g,o,hp,rfl,hg,hcl⟩ := (HL.out.below (keeps HB0.out HB.out)).get k hlt
   obtain ⟨c1,c2⟩ := rg_cells hcl
   have d1 : wr.cell? ⟨w.heap.size,0,none⟩ = some (.string x) := (HX.out.below HB.out).cell 0
   have d2 : wr.cell? ⟨w.heap.size,1,none⟩ = some (.string y) := (HX.out.below HB.out).cell 1
   have HP := hQ_ hp
   have heq := eq2 x y p.1 p.2
   clear hp hcl
   by_cases hq : x = p.1 ∧ y = p.2
   ·have he : ∀ v,(Op.equalIn 10000 97 (.agg #[.string x,.string y]) (.agg #[.string p.1,.string p.2])).run Tryz.prog v = .ok true v := fun v => by rw [heq v,decide_eq_true hq.1,decide_eq_true hq.2]; rfl
    have HQ := hQ_ hq
    clear heq hq
    go_wp2
    go_quiet (fail)
    go_wp2_with fail
    go_ret
    exact ⟨_,rfl,by rw [has_yes HP.out HQ.out.1.symm HQ.out.2.symm]; exact decide_eq_true (by omega),below_drewN (keeps HB0.out HB.out) _⟩
   ·have he : ∀ v,(Op.equalIn 10000 97 (.agg #[.string x,.string y]) (.agg #[.string p.1,.string p.2])).run Tryz.prog v = .ok false v := fun v => by
     rw [heq v]
     congr 1
     rw [← Bool.not_eq_true,Bool.and_eq_true,decide_eq_true_eq,decide_eq_true_eq]
     exact hq
    have HNO2 : Hid (∀ j q,j < k + 1 → L[j]? = some q → ¬ (q.1 = x ∧ q.2 = y)) := hQ_ (fun j q hj hjq => by
     rcases Nat.lt_or_ge j k with h1 | h1
     ·exact HNO.out j q h1 hjq
     ·obtain rfl : j = k := by omega
      have := HP.out
      rw [hjq] at this
      injection this with this
      subst this
      exact fun h => hq ⟨h.1.symm,h.2.symm⟩)
    clear heq hq
    go_wp2
    go_quiet (fail)
    go_wp2_with fail
    go_roundw
    case rel => exact ⟨k + 1,by omega,by go_num,HNO2,hQ_ (below_drewN HB.out _)⟩
    case measure => simp [intOf]; omega
  ·obtain rfl : k = n := by omega
   go_wp2_with fail
   go_ret
   exact ⟨_,rfl,by rw [has_no (fun j p hj hp => HNO.out j p (by rw [← HL.out.1]; exact hj) hp)]; exact decide_eq_false (by omega),keeps HB0.out HB.out⟩
theorem contains_calls (A : Option Addr) (n c : Nat) (L : List (ByteArray × ByteArray)) (x y : ByteArray) (w : World) (hl : Sl rgE w A n L) (hn : n ≤ 100000) :
 Calls Tryz.prog 43 #[.slice A n c,.agg #[.string x,.string y]] w fun e w' => e = .returned (.bool (hasR x y L)) ∧ Below w.heap.size w w' := by
 have HX := hQ_ (Blk.new_ w #[.string x,.string y] 97)
 have hb0 := bX_ HX.out
 have HI := hQ_ (index_calls A n c L x y _ (hl.below hb0) hn)
 have HB0 := hQ_ hb0
 clear hb0 hl
 go_enter Tryz.func43,Tryz.ntmps43
 go_wp2_with (first
  | ((with_reducible refine pick (some 6) ?_); refine load_blk rfl 97 _ rfl w.heap.size rfl 97 #[.string x,.string y] _ HX.out Tryz.underlying97 rfl (by kernel_rfl) ?_)
  | (go_at_call 76; refine HI.out.mono ?_; rintro e w1 ⟨i,rfl,hi,hb1⟩; have HH := hQ_ hi; have HB1 := hQ_ hb1; clear hi hb1))
 go_ret
 exact ⟨congrArg Ending.returned (congrArg Value.bool HH.out),keeps HB0.out HB1.out⟩
def CloneR (L : List (ByteArray × ByteArray)) (w : World) (e : Ending) (w' : World) : Prop := ∃ v,e = .returned v ∧ So rgE 97 w' w.heap.size v L.length L ∧ Below w.heap.size w w'
theorem clone_calls (A : Option Addr) (n c : Nat) (L : List (ByteArray × ByteArray)) (w : World) (hl : Sl rgE w A n L) (hn : n ≤ 100000) (h0 : A = none → c = 0) :
 Calls Tryz.prog 40 #[.slice A n c] w (CloneR L w) := by
 have HL := hQ_ hl
 have HC := hQ_ h0
 clear hl h0
 cases A with
 | none =>
   have hn0 : n = 0 := by
    rcases Nat.eq_zero_or_pos n with h | h
    ·exact h
    ·obtain ⟨_,_,_,_,e,_⟩ := HL.out.get 0 h
     cases e
   subst hn0
   have hL : L = [] := List.eq_nil_of_length_eq_zero HL.out.1
   subst hL
   have hc : c = 0 := HC.out rfl
   subst hc
   have hq : ∀ v,(binOp .eql 71 (.slice none 0 0) (.slice none 0 0)).run Tryz.prog v = .ok (.bool true) v := fun v => by kernel_rfl
   go_enter Tryz.func40,Tryz.ntmps40
   go_wp2_with fail
   go_ret
   exact ⟨_,rfl,So.nil_ _ _ _ _,Below.refl _ _⟩
 | some a =>
   have hq : ∀ v,(binOp .eql 71 (.slice (some a) n c) (.slice none 0 0)).run Tryz.prog v = .ok (.bool false) v := fun v => by kernel_rfl
   have hb0 := bN_ w (.cells #[] 97)
   have HB0 := hQ_ hb0
   have HL2 := hQ_ (HL.out.below hb0)
   have HO := hQ_ (So.new_ rgE 97 w (base := w.heap.size) (Nat.le_refl _))
   clear hb0
   go_enter Tryz.func40,Tryz.ntmps40
   go_wp2_with ((with_reducible refine pick (some 7) ?_); refine Tx.wpList_append_any rgE 97 rfl _ _ _ rfl Tryz.underlying71 info_rg rfl w.heap.size _ _ _ rfl HO.out (some a) n c L rfl HL2.out (fun h => by cases h) _ (Nat.zero_add n) _ (List.nil_append L) (by unfold maxLen; omega) (by omega) (by simp) ?_; intro v' w2 ho2 hg2 hat2)
   have HO2 := hQ_ ho2
   have HB2 : Hid (Below w.heap.size w w2) := hQ_ (HB0.out.grown hg2 (by simp) (fun g hg => (HO.out.lt hg).1))
   have HLN := hQ_ HL.out.1
   clear ho2 hg2 hat2
   go_wp2_with fail
   go_ret
   refine ⟨_,rfl,?_,HB2.out⟩
   rw [HLN.out]
   exact HO2.out
end Go.Proofs.YtogdjbhjgbnicaaGreatDoor.ViewKr
namespace Go.Proofs.YtogdjbhjgbnicaaGreatDoor.ViewKs
open Go.RowKit
open Byte KeysM TreeM ViewM ViewKm ViewKn ViewKr Own Lst Chg TreeR TreeL TreeG TreeH Ho ViewR
theorem So.chg {α : Type} {e : Enc α} {T : TypeId} {w w' : World} {base n : Nat} {v : Value} {L : List α} {S : Nat → Prop} (h : So e T w base v n L) (k : Chg S w w') (hn : ∀ g,v.ownBlock = some g → ¬ S g) : So e T w' base v n L := by
 obtain ⟨h1,h2,h4⟩ := h
 refine ⟨h1,h2,?_⟩
 rcases h4 with h4 | ⟨g,cap,cur,e1,e2,e3,rest⟩
 ·exact .inl h4
 ·have hlt : g < w.heap.size := by
   rcases Nat.lt_or_ge g w.heap.size with h | h
   ·exact h
   ·rw [Array.getElem?_eq_none h] at e3
    cases e3
  exact .inr ⟨g,cap,cur,e1,e2,(k.block g hlt (hn g (by rw [e1]; rfl))).trans e3,rest⟩
theorem So.apart {α : Type} {e : Enc α} {T U : TypeId} {w : World} {base n g : Nat} {v : Value} {L : List α} {cs : Array Value} (h : So e T w base v n L) (hb : Blk w g cs U) (hne : U ≠ T) : ∀ k,v.ownBlock = some k → k ≠ g := fun k hk e => by
 subst e
 rcases h.2.2 with ⟨h1,_⟩ | ⟨g',cap,cur,h1,_,h3,_⟩
 ·rw [h1] at hk
  cases hk
 ·rw [h1] at hk
  have : g' = k := by injection hk
  subst this
  unfold Blk at hb
  rw [hb] at h3
  injection h3 with h3
  injection h3 with _ h3
  exact hne h3
structure VC (w : World) (g : Nat) (b sh wt rd rg : Value) (B S W R : List Pr) (G : List (ByteArray × ByteArray)) : Prop where
 blk : Blk w g #[b,sh,wt,rd,rg] 73
 base : TN w b B
 shown : TN w sh S
 wr : TN w wt W
 read : TN w rd R
 rgs : So rgE 97 w 0 rg G.length G
section
variable {w w' : World} {g : Nat} {b sh wt rd rg : Value} {B S W R : List Pr} {G : List (ByteArray × ByteArray)}
theorem VC.apart (h : VC w g b sh wt rd rg B S W R G) : ∀ k,rg.ownBlock = some k → k ≠ g := So.apart h.rgs h.blk (by decide)
theorem VC.lt (h : VC w g b sh wt rd rg B S W R G) : g < w.heap.size := h.blk.lt
theorem VC.stay {T : Nat → Prop} (h : VC w g b sh wt rd rg B S W R G) (c : Chg T w w') (k : Kept w w') (h1 : ¬ T g) (h2 : ∀ k,rg.ownBlock = some k → ¬ T k) : VC w' g b sh wt rd rg B S W R G :=
 ⟨ViewD.blk_chg h.blk c h1,h.base.keep k,h.shown.keep k,h.wr.keep k,h.read.keep k,So.chg h.rgs c h2⟩
theorem VC.below (h : VC w g b sh wt rd rg B S W R G) (hb : Below w.heap.size w w') : VC w' g b sh wt rd rg B S W R G :=
 ⟨h.blk.below hb,h.base.below hb,h.shown.below hb,h.wr.below hb,h.read.below hb,h.rgs.below hb⟩
theorem VC.cells (h : VC w g b sh wt rd rg B S W R G) : w.cell? ⟨g,0,none⟩ = some b ∧ w.cell? ⟨g,1,none⟩ = some sh ∧ w.cell? ⟨g,2,none⟩ = some wt ∧ w.cell? ⟨g,3,none⟩ = some rd ∧ w.cell? ⟨g,4,none⟩ = some rg ∧ (∀ i,w.frozen? ⟨g,i,none⟩ = false) :=
 ⟨h.blk.cell 0,h.blk.cell 1,h.blk.cell 2,h.blk.cell 3,h.blk.cell 4,h.blk.frozen⟩
theorem kset (h : VC w g b sh wt rd rg B S W R G) (i : Nat) (u : Value) : Kept w (w.setCell ⟨g,i,none⟩ u) := ViewD.kept_set h.blk (by decide) i u
theorem rset (h : VC w g b sh wt rd rg B S W R G) (i : Nat) (u : Value) : So rgE 97 (w.setCell ⟨g,i,none⟩ u) 0 rg G.length G :=
 So.chg h.rgs ((Chg.refl (fun k => k = g) w).own i u) (fun k hk e => h.apart k hk e)
theorem VC.put1 (h : VC w g b sh wt rd rg B S W R G) {u : Value} {S' : List Pr} (hu : TN w u S') : VC (w.setCell ⟨g,1,none⟩ u) g b u wt rd rg B S' W R G :=
 ⟨h.blk.set_ 1 u,h.base.keep (kset h 1 u),hu.keep (kset h 1 u),h.wr.keep (kset h 1 u),h.read.keep (kset h 1 u),rset h 1 u⟩
theorem VC.put2 (h : VC w g b sh wt rd rg B S W R G) {u : Value} {W' : List Pr} (hu : TN w u W') : VC (w.setCell ⟨g,2,none⟩ u) g b sh u rd rg B S W' R G :=
 ⟨h.blk.set_ 2 u,h.base.keep (kset h 2 u),h.shown.keep (kset h 2 u),hu.keep (kset h 2 u),h.read.keep (kset h 2 u),rset h 2 u⟩
theorem VC.put3 (h : VC w g b sh wt rd rg B S W R G) {u : Value} {R' : List Pr} (hu : TN w u R') : VC (w.setCell ⟨g,3,none⟩ u) g b sh wt u rg B S W R' G :=
 ⟨h.blk.set_ 3 u,h.base.keep (kset h 3 u),h.shown.keep (kset h 3 u),h.wr.keep (kset h 3 u),hu.keep (kset h 3 u),rset h 3 u⟩
def own (g : Nat) (rg : Value) : Nat → Prop := fun k => k = g ∨ rg.ownBlock = some k
structure Did (g : Nat) (rg : Value) (w w' : World) : Prop where
 chg : Chg (own g rg) w w'
 kept : Kept w w'
theorem Did.refl (g : Nat) (rg : Value) (w : World) : Did g rg w w := ⟨Chg.refl _ _,fun _ _ _ _ _ h => h⟩
theorem Did.below {w1 : World} (d : Did g rg w w1) (hb : Below w1.heap.size w1 w') : Did g rg w w' := ⟨d.chg.trans (Chg.of_below hb),ViewD.Kept.trans d.kept (Kept.of_below hb)⟩
theorem Did.set {w1 : World} (d : Did g rg w w1) (h : VC w1 g b sh wt rd rg B S W R G) (i : Nat) (u : Value) : Did g rg w (w1.setCell ⟨g,i,none⟩ u) :=
 ⟨d.chg.setCell (.inl (.inl rfl)) u,ViewD.Kept.trans d.kept (kset h i u)⟩
end
variable {w : World} {g : Nat} {b sh wt rd rg : Value} {B S W R : List Pr} {G : List (ByteArray × ByteArray)}
theorem look_calls (k : ByteArray) (h : VC w g b sh wt rd rg B S W R G) (hl : S.length ≤ 50000) :
 Calls Tryz.prog 134 #[.pointer (some ⟨g,0,none⟩),.string k] w fun e w' => e = .returned (GotV (getL k S)) ∧ w = w' := by
 have HG := hQ_ (tnget k h.shown hl)
 obtain ⟨_,c1,_,_,_,_⟩ := h.cells
 clear h
 cases hG : getL k S with
 | none =>
   rw [hG] at HG
   go_enter Tryz.func134,Tryz.ntmps134
   go_wp2_with (go_at_call 42; refine HG.out.mono ?_; rintro e w1 ⟨rfl,rfl⟩; dsimp only [GotV])
   go_ret2
   exact ⟨rfl,rfl⟩
 | some p =>
   rw [hG] at HG
   go_enter Tryz.func134,Tryz.ntmps134
   go_wp2_with (go_at_call 42; refine HG.out.mono ?_; rintro e w1 ⟨rfl,rfl⟩; dsimp only [GotV])
   go_ret2
   exact ⟨rfl,rfl⟩
theorem get_calls (k : ByteArray) (h : VC w g b sh wt rd rg B S W R G) (hl : S.length ≤ 50000) (hr : R.length ≤ 50000) :
 Calls Tryz.prog 152 #[.pointer (some ⟨g,0,none⟩),.string k] w fun e w' => ∃ rd',e = .returned (GotV (getL k S)) ∧ VC w' g b sh wt rd' rg B S W (putL k ⟨#[]⟩ R) G ∧ Did g rg w w' := by
 have HS := hQ_ (tnset k ⟨#[]⟩ h.read hr)
 obtain ⟨_,c1,_,c3,_,f3⟩ := h.cells
 have HV := hQ_ h
 clear h f3
 obtain ⟨o,ho⟩ : ∃ o,getL k S = o := ⟨_,rfl⟩
 have HO := hQ_ ho
 clear ho
 go_enter Tryz.func152,Tryz.ntmps152
 go_wp2_with (go_at_call 148; refine HS.out.mono ?_; rintro e w1 ⟨rd',rfl,hrd,hb1⟩; obtain ⟨A1,rfl⟩ := hrd.form; have HV1 := hQ_ (HV.out.below hb1); have HV2 := hQ_ (HV1.out.put3 hrd); have HD := hQ_ (((Did.refl g rg w).below hb1).set HV1.out 3 (.pointer A1)); obtain ⟨k0,k1,k2,k3,k4,k5⟩ := HV1.out.cells; have f3 := k5 3; clear hrd hb1 k5)
 refine (look_calls k HV2.out hl).mono ?_
 rintro e w2 ⟨rfl,rfl⟩
 rw [HO.out]
 cases o with
 | none =>
   dsimp only [GotV]
   go_wp2_with fail
   go_ret2
   exact ⟨_,by rw [HO.out]; rfl,HV2.out,HD.out⟩
 | some p =>
   dsimp only [GotV]
   go_wp2_with fail
   go_ret2
   exact ⟨_,by rw [HO.out]; rfl,HV2.out,HD.out⟩
def roomB (k : ByteArray) (W : List Pr) : Bool := (getL k W).isSome || decide (W.length < 48)
theorem room_calls (k : ByteArray) (h : VC w g b sh wt rd rg B S W R G) (hl : W.length ≤ 50000) :
 Calls Tryz.prog 147 #[.pointer (some ⟨g,0,none⟩),.string k] w fun e w' => e = .returned (.bool (roomB k W)) ∧ w = w' := by
 have HG := hQ_ (tnget k h.wr hl)
 have HL := hQ_ (tnlen h.wr hl)
 obtain ⟨n,hn⟩ : ∃ n,W.length = n := ⟨_,rfl⟩
 rw [hn] at HL hl
 have HN := hQ_ hn
 obtain ⟨_,_,c2,_,_,_⟩ := h.cells
 clear h hn
 unfold roomB
 rw [HN.out]
 cases hG : getL k W with
 | none =>
   rw [hG] at HG
   clear hG
   by_cases h48 : n < 48
   ·have d : decide (n < 48) = true := decide_eq_true h48
    have d2 : decide ((n : Int) < 48) = true := decide_eq_true (by omega)
    rw [d]
    clear d
    go_enter Tryz.func147,Tryz.ntmps147
    go_wp2_with (first
     | (go_at_call 42; refine HG.out.mono ?_; rintro e w1 ⟨rfl,rfl⟩; dsimp only [GotV])
     | (go_at_call 72; refine HL.out.mono ?_; rintro e w1 ⟨rfl,rfl⟩))
    go_ret
    exact ⟨by simp [d2],rfl⟩
   ·have d : decide (n < 48) = false := decide_eq_false h48
    have d2 : decide ((n : Int) < 48) = false := decide_eq_false (by omega)
    rw [d]
    clear d
    go_enter Tryz.func147,Tryz.ntmps147
    go_wp2_with (first
     | (go_at_call 42; refine HG.out.mono ?_; rintro e w1 ⟨rfl,rfl⟩; dsimp only [GotV])
     | (go_at_call 72; refine HL.out.mono ?_; rintro e w1 ⟨rfl,rfl⟩))
    go_ret
    exact ⟨by simp [d2],rfl⟩
 | some p =>
   rw [hG] at HG
   clear hG
   go_enter Tryz.func147,Tryz.ntmps147
   go_wp2_with (first
    | (go_at_call 42; refine HG.out.mono ?_; rintro e w1 ⟨rfl,rfl⟩; dsimp only [GotV])
    | (go_at_call 72; refine HL.out.mono ?_; rintro e w1 ⟨rfl,rfl⟩))
   go_ret
   exact ⟨by simp,rfl⟩
theorem room_is (k : ByteArray) {r : Bool} (hr : roomB k W = r) (h : VC w g b sh wt rd rg B S W R G) (hl : W.length ≤ 50000) :
 Calls Tryz.prog 147 #[.pointer (some ⟨g,0,none⟩),.string k] w fun e w' => e = .returned (.bool r) ∧ w = w' := by
 subst hr
 exact room_calls k h hl
theorem set_no (k x : ByteArray) (h : VC w g b sh wt rd rg B S W R G) (hl : W.length ≤ 50000) (hr : roomB k W = false) :
 Calls Tryz.prog 122 #[.pointer (some ⟨g,0,none⟩),.string k,.string x] w fun e w' => e = .returned (.bool false) ∧ w = w' := by
 have HR := hQ_ (room_is k hr h hl)
 clear h hr
 go_enter Tryz.func122,Tryz.ntmps122
 go_wp2_with (go_at_call 147; refine HR.out.mono ?_; rintro e w1 ⟨rfl,rfl⟩)
 go_ret
 exact ⟨rfl,rfl⟩
theorem set_yes (k x : ByteArray) (h : VC w g b sh wt rd rg B S W R G) (hs : S.length ≤ 50000) (hl : W.length ≤ 50000) (hr : roomB k W = true) :
 Calls Tryz.prog 122 #[.pointer (some ⟨g,0,none⟩),.string k,.string x] w fun e w' => ∃ sh' wt',e = .returned (.bool true) ∧ VC w' g b sh' wt' rd rg B (putL k x S) (putL k ⟨#[]⟩ W) R G ∧ Did g rg w w' := by
 have HR := hQ_ (room_is k hr h hl)
 have HS := hQ_ (tnset k x h.shown hs)
 have HV := hQ_ h
 obtain ⟨_,c1,_,_,_,_⟩ := h.cells
 clear h hr
 go_enter Tryz.func122,Tryz.ntmps122
 go_wp2_with (first
  | (go_at_call 147; refine HR.out.mono ?_; rintro e w1 ⟨rfl,rfl⟩)
  | (go_at_call 148; (with_reducible refine HS.out.mono ?_); rintro e w1 ⟨sh',rfl,hsh,hb1⟩; obtain ⟨A1,rfl⟩ := hsh.form; have HV1 := hQ_ (HV.out.below hb1); have HV2 := hQ_ (HV1.out.put1 hsh); have HD := hQ_ (((Did.refl g rg w).below hb1).set HV1.out 1 (.pointer A1)); obtain ⟨k0,k1,k2,k3,k4,k5⟩ := HV1.out.cells; have f1 := k5 1; clear hsh hb1 k5)
  | (go_at_call 148; refine (tnset k ⟨#[]⟩ HV2.out.wr hl).mono ?_; rintro e w2 ⟨wt',rfl,hwt,hb2⟩; obtain ⟨A2,rfl⟩ := hwt.form; have HV3 := hQ_ (HV2.out.below hb2); have HV4 := hQ_ (HV3.out.put2 hwt); have HD2 := hQ_ ((HD.out.below hb2).set HV3.out 2 (.pointer A2)); obtain ⟨m0,m1,m2,m3,m4,m5⟩ := HV3.out.cells; have f2 := m5 2; clear hwt hb2 m5))
 go_ret
 exact ⟨_,_,rfl,HV4.out,HD2.out⟩
theorem cut_no (k : ByteArray) (h : VC w g b sh wt rd rg B S W R G) (hl : W.length ≤ 50000) (hr : roomB k W = false) :
 Calls Tryz.prog 133 #[.pointer (some ⟨g,0,none⟩),.string k] w fun e w' => e = .returned (.bool false) ∧ w = w' := by
 have HR := hQ_ (room_is k hr h hl)
 clear h hr
 go_enter Tryz.func133,Tryz.ntmps133
 go_wp2_with (go_at_call 147; refine HR.out.mono ?_; rintro e w1 ⟨rfl,rfl⟩)
 go_ret
 exact ⟨rfl,rfl⟩
theorem cut_yes (k : ByteArray) (p : Pr) (hB : getL k B = some p) (h : VC w g b sh wt rd rg B S W R G) (hb : B.length ≤ 50000) (hs : S.length ≤ 50000) (hl : W.length ≤ 50000) (hr : roomB k W = true) :
 Calls Tryz.prog 133 #[.pointer (some ⟨g,0,none⟩),.string k] w fun e w' => ∃ sh' wt',e = .returned (.bool true) ∧ VC w' g b sh' wt' rd rg B (cutL k S) (putL k ⟨#[]⟩ W) R G ∧ Did g rg w w' := by
 have HR := hQ_ (room_is k hr h hl)
 have HS := hQ_ (tncut k h.shown hs)
 have HV := hQ_ h
 have HB := hQ_ hB
 obtain ⟨_,c1,_,_,_,_⟩ := h.cells
 clear h hr hB
 go_enter Tryz.func133,Tryz.ntmps133
 go_wp2_with (first
  | (go_at_call 147; refine HR.out.mono ?_; rintro e w1 ⟨rfl,rfl⟩)
  | (go_at_call 158; (with_reducible refine HS.out.mono ?_); rintro e w1 ⟨sh',rfl,hsh,hb1⟩; obtain ⟨A1,rfl⟩ := hsh.form; have HV1 := hQ_ (HV.out.below hb1); have HV2 := hQ_ (HV1.out.put1 hsh); have HD := hQ_ (((Did.refl g rg w).below hb1).set HV1.out 1 (.pointer A1)); obtain ⟨k0,k1,k2,k3,k4,k5⟩ := HV1.out.cells; have f1 := k5 1; have hgb := tnget k HV2.out.base hb; rw [HB.out] at hgb; have HGB := hQ_ hgb; clear hsh hb1 k5 hgb)
  | (go_at_call 42; refine HGB.out.mono ?_; rintro e w3 ⟨rfl,rfl⟩; dsimp only [GotV])
  | (go_at_call 148; refine (tnset k ⟨#[]⟩ HV2.out.wr hl).mono ?_; rintro e w2 ⟨wt',rfl,hwt,hb2⟩; obtain ⟨A2,rfl⟩ := hwt.form; have HV3 := hQ_ (HV2.out.below hb2); have HV4 := hQ_ (HV3.out.put2 hwt); have HD2 := hQ_ ((HD.out.below hb2).set HV3.out 2 (.pointer A2)); obtain ⟨m0,m1,m2,m3,m4,m5⟩ := HV3.out.cells; have f2 := m5 2; clear hwt hb2 m5))
 go_ret
 exact ⟨_,_,rfl,HV4.out,HD2.out⟩
theorem cut_new (k : ByteArray) (hB : getL k B = none) (h : VC w g b sh wt rd rg B S W R G) (hb : B.length ≤ 50000) (hs : S.length ≤ 50000) (hl : W.length ≤ 50000) (hr : roomB k W = true) :
 Calls Tryz.prog 133 #[.pointer (some ⟨g,0,none⟩),.string k] w fun e w' => ∃ sh' wt',e = .returned (.bool true) ∧ VC w' g b sh' wt' rd rg B (cutL k S) (cutL k W) R G ∧ Did g rg w w' := by
 have HR := hQ_ (room_is k hr h hl)
 have HS := hQ_ (tncut k h.shown hs)
 have HV := hQ_ h
 have HB := hQ_ hB
 obtain ⟨_,c1,_,_,_,_⟩ := h.cells
 clear h hr hB
 go_enter Tryz.func133,Tryz.ntmps133
 go_wp2_with (first
  | (go_at_call 147; refine HR.out.mono ?_; rintro e w1 ⟨rfl,rfl⟩)
  | (go_at_call 158; (with_reducible refine HS.out.mono ?_); rintro e w1 ⟨sh',rfl,hsh,hb1⟩; obtain ⟨A1,rfl⟩ := hsh.form; have HV1 := hQ_ (HV.out.below hb1); have HV2 := hQ_ (HV1.out.put1 hsh); have HD := hQ_ (((Did.refl g rg w).below hb1).set HV1.out 1 (.pointer A1)); obtain ⟨k0,k1,k2,k3,k4,k5⟩ := HV1.out.cells; have f1 := k5 1; have hgb := tnget k HV2.out.base hb; rw [HB.out] at hgb; have HGB := hQ_ hgb; clear hsh hb1 k5 hgb)
  | (go_at_call 42; refine HGB.out.mono ?_; rintro e w3 ⟨rfl,rfl⟩; dsimp only [GotV])
  | (go_at_call 158; (with_reducible refine (tncut k HV2.out.wr hl).mono ?_); rintro e w2 ⟨wt',rfl,hwt,hb2⟩; obtain ⟨A2,rfl⟩ := hwt.form; have HV3 := hQ_ (HV2.out.below hb2); have HV4 := hQ_ (HV3.out.put2 hwt); have HD2 := hQ_ ((HD.out.below hb2).set HV3.out 2 (.pointer A2)); obtain ⟨m0,m1,m2,m3,m4,m5⟩ := HV3.out.cells; have f2 := m5 2; clear hwt hb2 m5))
 go_ret
 exact ⟨_,_,rfl,HV4.out,HD2.out⟩
end Go.Proofs.YtogdjbhjgbnicaaGreatDoor.ViewKs
namespace Go.Proofs.YtogdjbhjgbnicaaGreatDoor.ViewKw
open Go.RowKit
open Byte KeysM TreeM ViewM ViewKm ViewKn ViewKr ViewKs Own Lst Chg TreeR TreeL TreeG TreeH Ho ViewR
variable {w : World} {g : Nat} {b sh wt rd rg : Value} {B S W R : List Pr} {G : List (ByteArray × ByteArray)}
theorem new_view (w : World) (b : Value) (h : TN w b B) : VC (w.alloc (.cells #[b,b,.pointer none,.pointer none,.slice none 0 0] 73)) w.heap.size b b (.pointer none) (.pointer none) (.slice none 0 0) B B [] [] [] := by
 have hb := bN_ w (.cells #[b,b,.pointer none,.pointer none,.slice none 0 0] 73)
 exact ⟨Blk.new_ _ _ _,h.below hb,h.below hb,.inl ⟨rfl,rfl⟩,.inl ⟨rfl,rfl⟩,So.nil_ _ _ _ _⟩
theorem new_calls (b : Value) (w : World) (h : TN w b B) : Calls Tryz.prog 9 #[b] w fun e w' => e = .returned (.pointer (some ⟨w.heap.size,0,none⟩)) ∧ VC w' w.heap.size b b (.pointer none) (.pointer none) (.slice none 0 0) B B [] [] [] ∧ Below w.heap.size w w' := by
 obtain ⟨A,rfl⟩ := h.form
 have HV := hQ_ (new_view w _ h)
 have hb := bN_ w (.cells #[.pointer A,.pointer A,.pointer none,.pointer none,.slice none 0 0] 73)
 have HB := hQ_ hb
 clear h hb
 go_enter Tryz.func9,Tryz.ntmps9
 go_wp2_with fail
 go_ret
 exact ⟨rfl,HV.out,HB.out⟩
theorem info_view5 : (Tryz.prog.info? 73).map (·.size) = some 5 := by kernel_rfl
theorem VC.copy {w1 w2 : World} {v : Value} (h : VC w1 g b sh wt rd rg B S W R G) {c : Nat} (hb : Below w1.heap.size w1 w2) (hc : Blk w2 c #[b,sh,wt,rd,rg] 73) (ho : So rgE 97 w2 w1.heap.size v G.length G) : VC (w2.setCell ⟨c,4,none⟩ v) c b sh wt rd v B S W R G := by
 have k : Kept w2 (w2.setCell ⟨c,4,none⟩ v) := ViewD.kept_set hc (by decide) 4 v
 have h2 := h.below hb
 have ap := So.apart ho hc (by decide)
 exact ⟨hc.set_ 4 v,h2.base.keep k,h2.shown.keep k,h2.wr.keep k,h2.read.keep k,So.chg (S := fun q => q = c) (So.lower ho (Nat.zero_le _)) ((Chg.refl (fun q => q = c) w2).own 4 v) (fun q hq e => ap q hq e)⟩
theorem copy_calls (h : VC w g b sh wt rd rg B S W R G) (hr : G.length ≤ 2000) :
 Calls Tryz.prog 21 #[.pointer (some ⟨g,0,none⟩)] w fun e w' => ∃ c rg',e = .returned (.pointer (some ⟨c,0,none⟩)) ∧ w.heap.size ≤ c ∧ (∀ k,rg'.ownBlock = some k → w.heap.size ≤ k) ∧ VC w' c b sh wt rd rg' B S W R G ∧ Below w.heap.size w w' := by
 obtain ⟨A,c,e,_,_,h0⟩ := Tx.So.head h.rgs
 subst e
 obtain ⟨Ab,rfl⟩ := h.base.form
 obtain ⟨As,rfl⟩ := h.shown.form
 obtain ⟨Aw,rfl⟩ := h.wr.form
 obtain ⟨Ar,rfl⟩ := h.read.form
 obtain ⟨n,hn⟩ : ∃ n,G.length = n := ⟨_,rfl⟩
 have hb1 := bN_ w (.cells #[.pointer Ab,.pointer As,.pointer Aw,.pointer Ar,.slice A G.length c] 73)
 have hs : Sl rgE w A G.length G := So.sl h.rgs
 have HK := hQ_ (clone_calls A G.length c G _ (hs.below hb1) (by omega) h0)
 have HB1 := hQ_ hb1
 have HBL := hQ_ h.blk
 have HV1 := hQ_ (h.below hb1)
 have HC := hQ_ (Blk.new_ w #[.pointer Ab,.pointer As,.pointer Aw,.pointer Ar,.slice A G.length c] 73)
 obtain ⟨_,_,_,_,c4,_⟩ := HV1.out.cells
 rw [hn] at c4 HBL HC HB1 HK HV1
 clear h hs hb1 hn
 go_enter Tryz.func21,Tryz.ntmps21
 go_wp2_with (first
  | ((with_reducible refine pick (some 8) ?_); refine load_blk rfl 73 _ rfl g rfl 73 #[.pointer Ab,.pointer As,.pointer Aw,.pointer Ar,.slice A n c] _ HBL.out Tryz.underlying73 rfl info_view5 ?_)
  | (go_at_call 40; refine HK.out.mono ?_; rintro e w2 ⟨v,rfl,ho,hb2⟩; obtain ⟨A3,c3,rfl,_,_,_⟩ := Tx.So.head ho; have HO := hQ_ ho; have HB2 := hQ_ hb2; have HC2 := hQ_ (HC.out.below hb2); have k4 := HC2.out.cell 4; have f4 := HC2.out.frozen 4; clear ho hb2))
 go_ret
 refine ⟨w.heap.size,_,rfl,Nat.le_refl _,fun k hk => ?_,VC.copy HV1.out HB2.out HC2.out HO.out,(keeps HB1.out HB2.out).setCell (Nat.le_refl _) _⟩
 have := (So.lt HO.out hk).1
 have := HB1.out.size
 omega
def RgTo (w : World) (rg rg' : Value) : Prop := rg'.ownBlock = rg.ownBlock ∨ ∃ k,rg'.ownBlock = some k ∧ w.heap.size ≤ k
def RangeR (g : Nat) (b sh wt rd rg : Value) (B S W R : List Pr) (G : List (ByteArray × ByteArray)) (L : List Pr) (w : World) (e : Ending) (w' : World) : Prop := ∃ v rg',e = .returned v ∧ So prE 64 w' w.heap.size v L.length L ∧ VC w' g b sh wt rd rg' B S W R G ∧ Did g rg w w' ∧ RgTo w rg rg'
theorem range_none (x y : ByteArray) (h : VC w g b sh wt rd rg B S W R G) (hk : kl x y = false) :
 Calls Tryz.prog 25 #[.pointer (some ⟨g,0,none⟩),.string x,.string y] w (RangeR g b sh wt rd rg B S W R G [] w) := by
 have f1 : Op.bytesLess x.toList y.toList = false := hk
 have HV := hQ_ h
 clear h hk
 go_enter Tryz.func25,Tryz.ntmps25
 go_wp2_with fail
 go_ret
 exact ⟨_,rg,rfl,So.nil_ _ _ _ _,HV.out,Did.refl _ _ _,.inl rfl⟩
theorem range_old (x y : ByteArray) (h : VC w g b sh wt rd rg B S W R G) (hs : S.length ≤ 50000) (hg : G.length ≤ 50000) (hk : kl x y = true) (hR : hasR x y G = true) :
 Calls Tryz.prog 25 #[.pointer (some ⟨g,0,none⟩),.string x,.string y] w (RangeR g b sh wt rd rg B S W R G (rangeL x y S) w) := by
 have f1 : Op.bytesLess x.toList y.toList = true := hk
 have HV := hQ_ h
 have HRR := hQ_ hR
 have hb1 := bN_ w (.cells #[.string x,.string y] 97)
 have HB1 := hQ_ hb1
 obtain ⟨W1,hW1⟩ : ∃ W1,w.alloc (.cells #[.string x,.string y] 97) = W1 := ⟨_,rfl⟩
 have HBX := Blk.new_ w #[.string x,.string y] 97
 rw [hW1] at HB1 HBX
 have HV1 := hQ_ (HV.out.below HB1.out)
 obtain ⟨k0,k1,k2,k3,k4,_⟩ := HV1.out.cells
 obtain ⟨x0,x1⟩ := cC2 HBX
 have E1 := hQ_ hW1
 clear h hk hR hb1 hW1 HBX
 obtain ⟨A,c,e,_,_,h0⟩ := Tx.So.head HV.out.rgs
 subst e
 go_enter Tryz.func25,Tryz.ntmps25
 go_upto_region 4 with (fail)
 change Code.wp _ _ _ _ (w.alloc (.cells #[.string x,.string y] 97))
 rw [E1.out]
 have HCT := hQ_ (contains_calls A G.length c G x y W1.drew (So.sl (So.below HV1.out.rgs ((Below.refl _ _).drew))) (by omega))
 rw [HRR.out] at HCT
 have y4 : W1.drew.cell? ⟨g,4,none⟩ = some (.slice A G.length c) := k4
 have y0 : W1.drew.cell? ⟨w.heap.size,0,none⟩ = some (.string x) := x0
 have y1 : W1.drew.cell? ⟨w.heap.size,1,none⟩ = some (.string y) := x1
 go_still_tail 5,(by kernel_rfl)
 change wpList _ _ _ _ _ W1.drew
 go_wp2_with (first
  | (go_at_call 43; refine HCT.out.mono ?_; rintro e w2 ⟨rfl,hb2⟩; have HB2 := hQ_ hb2; have HV2 := hQ_ ((HV1.out.below ((Below.refl _ _).drew)).below hb2); obtain ⟨m0,m1,m2,m3,m4,_⟩ := HV2.out.cells; have HTR := hQ_ (tnrange x y HV2.out.shown hs); clear hb2)
  | (go_at_call 44; refine HTR.out.mono ?_; rintro e w3 ⟨v,rfl,ho,hb3⟩; have HO := hQ_ ho; have HB3 := hQ_ hb3; clear ho hb3))
 go_ret
 have hd : Did g (.slice A G.length c) w w2 := ((((Did.refl g _ w).below HB1.out).below ((Below.refl _ _).drew)).below HB2.out)
 have hz : w.heap.size ≤ w2.heap.size := hd.chg.size
 exact ⟨_,_,rfl,So.lower HO.out hz,HV2.out.below HB3.out,hd.below HB3.out,.inl rfl⟩
theorem VC.app {x y : ByteArray} {w3 : World} {o : Obj} {rg' : Value} (h : VC w g b sh wt rd rg B S W R G) (hg' : (w.alloc o).drew.grownBy w3 rg.ownBlock) (ho : So rgE 97 w3 0 rg' (G.length + 1) (G ++ [(x,y)])) : Blk w3 g #[b,sh,wt,rd,rg] 73 ∧ VC (w3.setCell ⟨g,4,none⟩ rg') g b sh wt rd rg' B S W R (G ++ [(x,y)]) ∧ Did g rg w (w3.setCell ⟨g,4,none⟩ rg') := by
 have hg : (w.alloc o).grownBy w3 rg.ownBlock := ⟨hg'.os,hg'.tape,hg'.output,hg'.size,hg'.block⟩
 have hb : Below w.heap.size w (w.alloc o) := bW_
 have h1 := h.below hb
 have k1 : Kept (w.alloc o) w3 := Kept.of_grown h1.rgs hg (by decide)
 have hblk : Blk w3 g #[b,sh,wt,rd,rg] 73 := h1.rgs.stays hg h1.blk (by decide)
 have k2 : Kept w3 (w3.setCell ⟨g,4,none⟩ rg') := ViewD.kept_set hblk (by decide) 4 rg'
 have k := ViewD.Kept.trans k1 k2
 have ap := So.apart ho hblk (by decide)
 have ho' : So rgE 97 (w3.setCell ⟨g,4,none⟩ rg') 0 rg' (G.length + 1) (G ++ [(x,y)]) := So.chg (S := fun q => q = g) ho ((Chg.refl (fun q => q = g) w3).own 4 rg') (fun q hq e => ap q hq e)
 exact ⟨hblk,⟨hblk.set_ 4 rg',h1.base.keep k,h1.shown.keep k,h1.wr.keep k,h1.read.keep k,by rw [List.length_append]; exact ho'⟩,⟨((Chg.of_below hb).trans (Chg.of_grown (S := own g rg) hg (fun k hk => .inl (.inr hk)))).setCell (.inl (.inl rfl)) _,ViewD.Kept.trans (Kept.of_below hb) k⟩⟩
theorem rg_next {w3 : World} {x y : ByteArray} {gg cap n : Nat} (hn : G.length = n) (h : w3.ownsRow 0 97 2 (.slice (some ⟨gg,0,none⟩) (n + 1) cap) (n + 1) (flat rgE G ++ [.string x,.string y])) : So rgE 97 w3 0 (.slice (some ⟨gg,0,none⟩) (n + 1) cap) (G.length + 1) (G ++ [(x,y)]) := by
 subst hn
 refine ⟨by simp,?_⟩
 rw [flat_append]
 exact h
theorem range_new (x y : ByteArray) (h : VC w g b sh wt rd rg B S W R G) (hs : S.length ≤ 50000) (hg : G.length ≤ 50000) (hk : kl x y = true) (hR : hasR x y G = false) :
 Calls Tryz.prog 25 #[.pointer (some ⟨g,0,none⟩),.string x,.string y] w (RangeR g b sh wt rd rg B S W R (G ++ [(x,y)]) (rangeL x y S) w) := by
 have f1 : Op.bytesLess x.toList y.toList = true := hk
 have HV := hQ_ h
 have HRR := hQ_ hR
 have hb1 := bN_ w (.cells #[.string x,.string y] 97)
 have HB1 := hQ_ hb1
 obtain ⟨W1,hW1⟩ : ∃ W1,w.alloc (.cells #[.string x,.string y] 97) = W1 := ⟨_,rfl⟩
 have HBX := Blk.new_ w #[.string x,.string y] 97
 rw [hW1] at HB1 HBX
 have HV1 := hQ_ (HV.out.below HB1.out)
 obtain ⟨k0,k1,k2,k3,k4,_⟩ := HV1.out.cells
 obtain ⟨x0,x1⟩ := cC2 HBX
 have HX := hQ_ HBX
 have E1 := hQ_ hW1
 clear h hk hR hb1 hW1 HBX
 obtain ⟨A,c,e,_,_,h0⟩ := Tx.So.head HV.out.rgs
 obtain ⟨n,hn⟩ : ∃ n,G.length = n := ⟨_,rfl⟩
 have HN := hQ_ hn
 have E := hQ_ e
 rw [hn] at hg
 rw [e,hn] at k4
 have HCT := hQ_ (contains_calls A n c G x y W1.drew (So.sl (by have := So.below HV1.out.rgs ((Below.refl _ _).drew : Below W1.heap.size W1 W1.drew); rw [e,hn] at this; exact this)) (by omega))
 rw [HRR.out] at HCT
 clear hn e
 go_enter Tryz.func25,Tryz.ntmps25
 go_upto_region 4 with (fail)
 change Code.wp _ _ _ _ (w.alloc (.cells #[.string x,.string y] 97))
 rw [E1.out]
 have y4 : W1.drew.cell? ⟨g,4,none⟩ = some (.slice A n c) := k4
 have y0 : W1.drew.cell? ⟨w.heap.size,0,none⟩ = some (.string x) := x0
 have y1 : W1.drew.cell? ⟨w.heap.size,1,none⟩ = some (.string y) := x1
 go_still_tail 5,(by kernel_rfl)
 change wpList _ _ _ _ _ W1.drew
 go_upto_region 5 with (go_at_call 43; refine HCT.out.mono ?_; rintro e w2 ⟨rfl,hb2⟩; have HB2 := hQ_ hb2; have HV2 := hQ_ ((HV1.out.below ((Below.refl _ _).drew)).below hb2); have HX2 := hQ_ (((HX.out.below ((Below.refl _ _).drew)).below hb2)); clear hb2)
 have m4 : w2.cell? ⟨g,4,none⟩ = some (.slice A n c) := by have h := HV2.out.cells.2.2.2.2.1; rw [E.out,HN.out] at h; exact h
 have m4a : (w2.alloc (.cells #[.string x,.string y] 97)).cell? ⟨g,4,none⟩ = some (.slice A n c) := by rw [World.cell?_alloc_lt _ _ ⟨g,4,none⟩ HV2.out.lt,m4]
 have z0 := cC2 HX2.out
 have HOWN : Hid (w2.ownsRow 0 97 2 (.slice A n c) n (flat rgE G)) := hQ_ (by have h := HV2.out.rgs.2; rw [E.out,HN.out] at h; exact h)
 obtain ⟨i0,hi0,hz0,hz1,hz2⟩ := info_parts info_rg
 go_region_law (first
  | (refine step_append_lies _ (by rfl) _ _ _ (by rfl) 0 97 i0 _ 2 32 Tryz.underlying71 hi0 hz0 hz1 hz2 rfl (by omega) (.slice A n c) n _ (by rfl) ((HOWN.out.alloc _).drew)
      ⟨w2.heap.size,0,none⟩ 1 1 [.string x,.string y] (by rfl) (by rfl) (World.news_of_block (cs := #[.string x,.string y]) (t := 97) (fr := (0,0)) (heap_alloc_new w2 _)) (by simp [Value.oneCell'])
      (by omega) (by unfold maxLen; omega) (by omega) (by simp) (w2.heap.size + 1) (by simp) ?_; intro gg cap w3 hown3 hgrow hat hlt'; have HAP := hQ_ (VC.app HV2.out (by rw [E.out,HN.out]; exact hgrow) (rg_next HN.out hown3)); have HAT := hQ_ hat; have n4 : w3.cell? ⟨g,4,none⟩ = some (.slice A n c) := (by have h := HAP.out.1.cell 4; rw [E.out,HN.out] at h; exact h); have q4 := HAP.out.1.frozen 4; clear hown3 hgrow hat hlt'))
 all_goals
  have HV4 := hQ_ HAP.out.2.1
  obtain ⟨l0,l1,l2,l3,l4,_⟩ := HV4.out.cells
  have HTR := hQ_ (tnrange x y HV4.out.shown hs)
  go_wp2_with (go_at_call 44; refine HTR.out.mono ?_; rintro e w5 ⟨v,rfl,ho,hb5⟩; have HO := hQ_ ho; have HB5 := hQ_ hb5; clear ho hb5)
  go_ret
  have hd : Did g rg w w2 := ((((Did.refl g _ w).below HB1.out).below ((Below.refl _ _).drew)).below HB2.out)
  have hd2 := HAP.out.2.2
  have hd3 : Did g rg w _ := ⟨hd.chg.trans hd2.chg,ViewD.Kept.trans hd.kept hd2.kept⟩
  refine ⟨_,_,rfl,So.lower HO.out hd3.chg.size,HV4.out.below HB5.out,hd3.below HB5.out,?_⟩
  rcases HAT.out with h | h
  ·left
   rw [E.out,HN.out]
   exact h.symm
  ·right
   exact ⟨gg,rfl,by have := hd.chg.size; omega⟩
end Go.Proofs.YtogdjbhjgbnicaaGreatDoor.ViewKw
namespace Go.Proofs.YtogdjbhjgbnicaaGreatDoor.ViewK
open Go.RowKit
open Byte KeysM TreeM ViewM ViewKm ViewKn ViewKr ViewKs ViewKw Own Lst Chg TreeR TreeL TreeG TreeH Ho ViewR ViewL ViewP
def VRep (w : World) (v : Value) (s : Vs) (S D : Nat → Prop) : Prop := ∃ (g : Nat) (b sh wt rd rg : Value),v = .pointer (some ⟨g,0,none⟩) ∧ VC w g b sh wt rd rg s.base s.shown (kys s.wr) s.rd s.rg ∧ s.Ok ∧ Bare s.wr ∧ S = own g rg ∧ D = own g rg
theorem stays : Stays VRep where
 stay := by
  rintro w w' v s S D T ⟨g,b,sh,wt,rd,rg,rfl,hv,h1,h2,rfl,rfl⟩ hc hT hk
  exact ⟨g,b,sh,wt,rd,rg,rfl,hv.stay hc hk (fun h => hT g h (.inl rfl)) (fun k hk' h => hT k h (.inr hk')),h1,h2,rfl,rfl⟩
 ok := by
  rintro w v s S D ⟨g,b,sh,wt,rd,rg,rfl,hv,h1,h2,rfl,rfl⟩
  exact h1
 lt := by
  rintro w v s S D ⟨g,b,sh,wt,rd,rg,rfl,hv,h1,h2,rfl,rfl⟩ q hq
  rcases hq with rfl | hq
  ·exact hv.lt
  ·exact (hv.rgs.lt hq).2
 sub := by
  rintro w v s S D ⟨g,b,sh,wt,rd,rg,rfl,hv,h1,h2,rfl,rfl⟩ q hq
  exact hq
theorem lens {s : Vs} (h : Lim s) (ho : s.Ok) : s.base.length ≤ 2000 ∧ s.shown.length ≤ 50000 ∧ s.wr.length ≤ 2000 ∧ (kys s.wr).length ≤ 50000 ∧ s.rd.length ≤ 30000 ∧ s.rg.length ≤ 2000 := by
 have h1 := h.base
 have h2 := h.rd
 have h3 := h.rg
 have h4 := ho.lw
 have h5 : s.shown.length ≤ s.base.length + s.wr.length := shown_len s.base s.wr
 refine ⟨by omega,by omega,by omega,by rw [kys_len]; omega,by omega,by omega⟩
theorem room_full (s : Vs) (k x : ByteArray) (gn : Bool) : roomB k (kys s.wr) = !fullW s.wr ⟨k,x,gn⟩ := by
 unfold roomB fullW
 rw [kys_in,kys_len]
 dsimp only
 cases inW k s.wr with
 | true => rfl
 | false =>
   by_cases h : s.wr.length < 48
   ·rw [decide_eq_true h,decide_eq_false (by omega)]
    rfl
   ·rw [decide_eq_false h,decide_eq_true (by omega)]
    rfl
theorem stp {g : Nat} {rg : Value} {w w' : World} (d : Did g rg w w') : Stp (own g rg) (own g rg) (own g rg) (own g rg) w w' := ⟨d.chg,d.kept,Grow.refl _ _,Grow.refl _ _⟩
theorem own_new {w : World} {g : Nat} {rg rg' : Value} (h : RgTo w rg rg') : Grow w (own g rg) (own g rg') := fun b hb => by
 rcases hb with rfl | hb
 ·exact .inl (.inl rfl)
 ·rcases h with h | ⟨k,h1,h2⟩
  ·exact .inl (.inr (by rw [← h]; exact hb))
  ·rw [h1] at hb
   injection hb with hb
   exact .inr (by omega)
theorem sh_of {α : Type} {e : Enc α} {T : TypeId} {w : World} {base : Nat} {v : Value} {L : List α} (h : So e T w base v L.length L) : ∃ r : Sh,v = .slice r.a r.n r.c ∧ Sl e w r.a r.n L ∧ ∀ b o,r.a = some ⟨b,o,none⟩ → base ≤ b := by
 rcases h.form with ⟨rfl,h0⟩ | ⟨g,cap,rfl,h1,_⟩
 ·refine ⟨⟨none,0,0⟩,rfl,?_,fun b o e => by cases e⟩
  have := List.eq_nil_of_length_eq_zero h0
  subst this
  exact Sl.nil_ _ _ _
 ·exact ⟨⟨some ⟨g,0,none⟩,L.length,cap⟩,rfl,So.sl h,fun b o e => by injection e with e; injection e with e; omega⟩
theorem new_ok : NewOk VRep := by
 intro w t L h hr hl
 refine (new_calls t w (TN.of hr)).mono ?_
 rintro e w' ⟨rfl,hv,hb⟩
 have hw : ∀ q,own w.heap.size (.slice none 0 0) q → w.heap.size ≤ q := fun q hq => by
  rcases hq with rfl | hq
  ·exact Nat.le_refl _
  ·cases hq
 exact ⟨_,_,_,rfl,⟨_,_,_,_,_,_,rfl,hv,⟨trise hr,List.Pairwise.nil,List.Pairwise.nil,Nat.zero_le _⟩,Bare.nil,rfl,rfl⟩,hw,hw,hb⟩
theorem get_ok : GetOk VRep := by
 rintro w v s S D k ⟨g,b,sh,wt,rd,rg,rfl,hv,h1,h2,rfl,rfl⟩ hl hk
 obtain ⟨l1,l2,l3,l4,l5,l6⟩ := lens hl h1
 refine (get_calls k hv l2 (by omega)).mono ?_
 rintro e w' ⟨rd',rfl,hv',hd⟩
 exact ⟨_,_,rfl,⟨g,b,sh,wt,rd',rg,rfl,by rw [put_putP] at hv'; exact hv',ok_read h1 k,h2,rfl,rfl⟩,stp hd⟩
theorem look_ok : LookOk VRep := by
 rintro w v s S D k ⟨g,b,sh,wt,rd,rg,rfl,hv,h1,h2,rfl,rfl⟩ hl hk
 obtain ⟨l1,l2,l3,l4,l5,l6⟩ := lens hl h1
 refine (look_calls k hv l2).mono ?_
 rintro e w' ⟨rfl,rfl⟩
 exact ⟨_,_,rfl,⟨g,b,sh,wt,rd,rg,rfl,hv,h1,h2,rfl,rfl⟩,stp (Did.refl _ _ _)⟩
theorem range_ok : RangeOk VRep := by
 rintro w v s S D x y ⟨g,b,sh,wt,rd,rg,rfl,hv,h1,h2,rfl,rfl⟩ hl hx hy
 obtain ⟨l1,l2,l3,l4,l5,l6⟩ := lens hl h1
 have key : ∀ (G : List (ByteArray × ByteArray)) (L : List Pr),(s.ranged x y).rg = G → s.rangeOf x y = L → Calls Tryz.prog 25 #[.pointer (some ⟨g,0,none⟩),.string x,.string y] w (RangeR g b sh wt rd rg s.base s.shown (kys s.wr) s.rd G L w) → Calls Tryz.prog 25 #[.pointer (some ⟨g,0,none⟩),.string x,.string y] w fun e w' => ∃ (r : Sh) (S' D' : Nat → Prop),e = .returned (.slice r.a r.n r.c) ∧ Sl prE w' r.a r.n (s.rangeOf x y) ∧ (0 < r.n → NewA w r) ∧ VRep w' (.pointer (some ⟨g,0,none⟩)) (s.ranged x y) S' D' ∧ Stp (own g rg) (own g rg) S' D' w w' := by
  intro G L hG hL hc
  refine hc.mono ?_
  rintro e w' ⟨u,rg',rfl,ho,hv',hd,hto⟩
  obtain ⟨r,rfl,hsl,hnew⟩ := sh_of ho
  refine ⟨r,_,_,rfl,by rw [hL]; exact hsl,fun _ => fun b o e => hnew b o e,⟨g,b,sh,wt,rd,rg',rfl,?_,ok_ranged h1 x y,?_,rfl,rfl⟩,hd.chg,hd.kept,own_new hto,own_new hto⟩
  ·rw [hG]
   have e1 : (s.ranged x y).base = s.base ∧ (s.ranged x y).shown = s.shown ∧ (s.ranged x y).wr = s.wr ∧ (s.ranged x y).rd = s.rd := by
    unfold Vs.ranged
    split <;> exact ⟨rfl,rfl,rfl,rfl⟩
   rw [e1.1,e1.2.1,e1.2.2.1,e1.2.2.2]
   exact hv'
  ·have e1 : (s.ranged x y).wr = s.wr := by
    unfold Vs.ranged
    split <;> rfl
   rw [e1]
   exact h2
 cases hk : kl x y with
 | false =>
   refine key s.rg [] ?_ ?_ (range_none x y hv hk)
   ·unfold Vs.ranged
    rw [hk]
    rfl
   ·unfold Vs.rangeOf
    rw [hk]
    rfl
 | true =>
   cases hh : hasR x y s.rg with
   | true =>
     refine key s.rg (rangeL x y s.shown) ?_ ?_ (range_old x y hv l2 (by omega) hk hh)
     ·unfold Vs.ranged addR
      rw [hk,hh]
      rfl
     ·unfold Vs.rangeOf
      rw [hk]
      rfl
   | false =>
     refine key (s.rg ++ [(x,y)]) (rangeL x y s.shown) ?_ ?_ (range_new x y hv l2 (by omega) hk hh)
     ·unfold Vs.ranged addR
      rw [hk,hh]
      rfl
     ·unfold Vs.rangeOf
      rw [hk]
      rfl
theorem set_ok : SetOk VRep := by
 rintro w v s S D k x ⟨g,b,sh,wt,rd,rg,rfl,hv,h1,h2,rfl,rfl⟩ hl hk hx
 obtain ⟨l1,l2,l3,l4,l5,l6⟩ := lens hl h1
 have hrf := room_full s k x false
 cases hf : fullW s.wr ⟨k,x,false⟩ with
 | true =>
   rw [hf] at hrf
   refine (set_no k x hv l4 hrf).mono ?_
   rintro e w' ⟨rfl,rfl⟩
   have e1 : s.write ⟨k,x,false⟩ = s := by
    unfold Vs.write
    rw [hf]
    rfl
   rw [e1]
   exact ⟨_,_,rfl,⟨g,b,sh,wt,rd,rg,rfl,hv,h1,h2,rfl,rfl⟩,stp (Did.refl _ _ _)⟩
 | false =>
   rw [hf] at hrf
   refine (set_yes k x hv l2 l4 hrf).mono ?_
   rintro e w' ⟨sh',wt',rfl,hv',hd⟩
   have e1 : s.write ⟨k,x,false⟩ = { s with wr := writeW s.base s.wr ⟨k,x,false⟩ } := by
    unfold Vs.write
    rw [hf]
    rfl
   have hok := ok_write h1 ⟨k,x,false⟩
   rw [e1] at hok ⊢
   refine ⟨_,_,rfl,⟨g,b,sh',wt',rd,rg,rfl,?_,hok,h2.write (B := s.base) (p := ⟨k,x,false⟩) (fun h => by cases h),rfl,rfl⟩,stp hd⟩
   have e2 : shownL s.base (writeW s.base s.wr ⟨k,x,false⟩) = putL k x s.shown := shown_write h1.base h1.wr ⟨k,x,false⟩
   have e3 : kys (writeW s.base s.wr ⟨k,x,false⟩) = putL k ⟨#[]⟩ (kys s.wr) := by rw [put_is,kys_put]
   show VC w' g b sh' wt' rd rg s.base (shownL s.base (writeW s.base s.wr ⟨k,x,false⟩)) (kys (writeW s.base s.wr ⟨k,x,false⟩)) s.rd s.rg
   rw [e2,e3]
   exact hv'
theorem cut_ok : CutOk VRep := by
 rintro w v s S D k ⟨g,b,sh,wt,rd,rg,rfl,hv,h1,h2,rfl,rfl⟩ hl hk
 obtain ⟨l1,l2,l3,l4,l5,l6⟩ := lens hl h1
 have hrf := room_full s k ⟨#[]⟩ true
 cases hf : fullW s.wr ⟨k,⟨#[]⟩,true⟩ with
 | true =>
   rw [hf] at hrf
   refine (cut_no k hv l4 hrf).mono ?_
   rintro e w' ⟨rfl,rfl⟩
   have e1 : s.write ⟨k,⟨#[]⟩,true⟩ = s := by
    unfold Vs.write
    rw [hf]
    rfl
   rw [e1]
   exact ⟨_,_,rfl,⟨g,b,sh,wt,rd,rg,rfl,hv,h1,h2,rfl,rfl⟩,stp (Did.refl _ _ _)⟩
 | false =>
   rw [hf] at hrf
   have e1 : s.write ⟨k,⟨#[]⟩,true⟩ = { s with wr := writeW s.base s.wr ⟨k,⟨#[]⟩,true⟩ } := by
    unfold Vs.write
    rw [hf]
    rfl
   have hok := ok_write h1 ⟨k,⟨#[]⟩,true⟩
   have e2 : shownL s.base (writeW s.base s.wr ⟨k,⟨#[]⟩,true⟩) = cutL k s.shown := shown_write h1.base h1.wr ⟨k,⟨#[]⟩,true⟩
   rw [e1] at hok ⊢
   cases hB : getL k s.base with
   | some p =>
     refine (cut_yes k p hB hv (by omega) l2 l4 hrf).mono ?_
     rintro e w' ⟨sh',wt',rfl,hv',hd⟩
     refine ⟨_,_,rfl,⟨g,b,sh',wt',rd,rg,rfl,?_,hok,h2.write (B := s.base) (p := ⟨k,⟨#[]⟩,true⟩) (fun _ => rfl),rfl,rfl⟩,stp hd⟩
     have e3 : kys (writeW s.base s.wr ⟨k,⟨#[]⟩,true⟩) = putL k ⟨#[]⟩ (kys s.wr) := by rw [ViewKm.cut_is,hB]; exact kys_put ⟨k,⟨#[]⟩,true⟩ s.wr
     show VC w' g b sh' wt' rd rg s.base (shownL s.base (writeW s.base s.wr ⟨k,⟨#[]⟩,true⟩)) (kys (writeW s.base s.wr ⟨k,⟨#[]⟩,true⟩)) s.rd s.rg
     rw [e2,e3]
     exact hv'
   | none =>
     refine (cut_new k hB hv (by omega) l2 l4 hrf).mono ?_
     rintro e w' ⟨sh',wt',rfl,hv',hd⟩
     refine ⟨_,_,rfl,⟨g,b,sh',wt',rd,rg,rfl,?_,hok,h2.write (B := s.base) (p := ⟨k,⟨#[]⟩,true⟩) (fun _ => rfl),rfl,rfl⟩,stp hd⟩
     have e3 : kys (writeW s.base s.wr ⟨k,⟨#[]⟩,true⟩) = cutL k (kys s.wr) := by rw [ViewKm.cut_is,hB]; exact kys_cut k s.wr
     show VC w' g b sh' wt' rd rg s.base (shownL s.base (writeW s.base s.wr ⟨k,⟨#[]⟩,true⟩)) (kys (writeW s.base s.wr ⟨k,⟨#[]⟩,true⟩)) s.rd s.rg
     rw [e2,e3]
     exact hv'
end Go.Proofs.YtogdjbhjgbnicaaGreatDoor.ViewK
namespace Go.Proofs.YtogdjbhjgbnicaaGreatDoor.WalkK
open ViewM ViewL WalkL WalkD WalkE WalkV WalkKa WalkKb
def VRep : RepT := VB ViewK.VRep
theorem small : Small VRep := fun _ _ _ _ _ r => r.2
theorem stays : Stays VRep := stays_b ViewK.stays
theorem shown_len ⦃w : World⦄ ⦃v : Value⦄ ⦃s : Vs⦄ ⦃S D : Nat → Prop⦄ (r : VRep w v s S D) (h : Lim s) : s.shown.length ≤ 100000 := by
 have := (ViewK.lens h (stays.ok r)).2.1
 omega
theorem wks : Wks VRep := ⟨save_ok stays (set_b ViewK.set_ok),drop_ok stays (cut_b ViewK.cut_ok),hang_ok stays (set_b ViewK.set_ok),unhang_ok stays (cut_b ViewK.cut_ok),child_ok stays (get_b ViewK.get_ok) small,list_ok stays (range_b ViewK.range_ok) shown_len⟩
theorem find_ok : FindOk VRep := by
 intro w v s S D path hr hl h2 hn hx
 by_cases hs : (NamesM.spl path).2 = 0
 ·refine (find_yes_calls stays (get_b ViewK.get_ok) small path hr hl h2 hn hx hs (WalkF.findM s.shown path).1 (WalkF.findM s.shown path).2 rfl).mono ?_
  rintro e w' ⟨s',S',D',he,h3,h4,h5⟩
  exact ⟨s',S',D',he,h3,h4,h5⟩
 ·have hf := WalkKm.find_no (L := s.shown) hs
  refine (find_no_calls stays path hr hn hx hs).mono ?_
  rintro e w' ⟨s',S',D',he,h3,h4,h5⟩
  rw [hf]
  exact ⟨s',S',D',he,h3,h4,h5⟩
end Go.Proofs.YtogdjbhjgbnicaaGreatDoor.WalkK
namespace Go.Proofs.YtogdjbhjgbnicaaGreatDoor.DirsK
open Go.RowKit
open Byte KeysM TreeM ViewM NodeM NamesM NamesL WalkM WalkF WalkKm DirsV Lst Chg TreeL ViewL WalkL WalkV Vat WalkKa WalkKb
open Own hiding keeps
variable {Rep : RepT} {w : World} {v : Value} {s : Vs} {S D : Nat → Prop}
structure Wk (Rep : RepT) : Prop where
 stays : Stays Rep
 get : GetOk Rep
 range : RangeOk Rep
 cut : CutOk Rep
 small : Small Rep
 save : SaveOk Rep
 drop : DropOk Rep
 hang : HangOk Rep
 unhang : UnhangOk Rep
 list : ListOk Rep
 find : WalkE.FindOk Rep
 shown : ∀ ⦃w v s S D⦄,Rep w v s S D → Lim s → s.shown.length ≤ 100000
theorem wk : Wk WalkK.VRep := ⟨WalkK.stays,get_b ViewK.get_ok,range_b ViewK.range_ok,cut_b ViewK.cut_ok,WalkK.small,WalkK.wks.save,WalkK.wks.drop,WalkK.wks.hang,WalkK.wks.unhang,WalkK.wks.list,WalkK.find_ok,WalkK.shown_len⟩
def Wrote (Rep : RepT) (v : Value) (s : Vs) (ps : List Wrt) (k m : Nat) (S D : Nat → Prop) (w : World) (e : Ending) (w' : World) : Prop := ∃ s' S' D',e = .returned (.bool (goW s ps).2) ∧ Rep w' v s' S' D' ∧ Stp S D S' D' w w' ∧ Aft s s' ps k m
theorem lim_aft {s s' : Vs} {ps : List Wrt} {k m : Nat} (h : Aft s s' ps k m) (hl : Lim s) (h1 : s.rd.length + k ≤ 20000) (h2 : s.rg.length + m ≤ 1000) : Lim s' :=
 ⟨by rw [h.sm.base,goW_base]; exact hl.base,Nat.le_trans h.rd h1,Nat.le_trans h.rg h2⟩
theorem wrote_one {v : Value} {s t : Vs} {p : Wrt} {q : Pr} {k : Nat} {S D S' D' : Nat → Prop} {w w' : World} (hq : p s.shown = q) (ht : Sm t s) (h1 : t.rd.length ≤ s.rd.length + k) (h2 : t.rg.length ≤ s.rg.length) (hr : Rep w' v (t.write q) S' D') (st : Stp S D S' D' w w') : Wrote Rep v s [p] k 0 S D w (.returned (.bool (!fullW t.wr q))) w' := by
 subst hq
 have h3 := write_rd t (p s.shown)
 exact ⟨_,S',D',by rw [one_ok,ht.wr],hr,st,Aft.one (ht.write _) (by rw [h3.1]; exact h1) (by rw [h3.2]; exact h2)⟩
theorem tie_calls (hW : Wk Rep) {w : World} {v : Value} {s : Vs} {S D : Nat → Prop} (dir more : Int) (hr : Rep w v s S D) (hl : Lim s) (h2 : s.rd.length ≤ 19990) (h0 : 0 ≤ dir) (h1 : dir ≤ 4294967295) (hm0 : -1 ≤ more) (hm1 : more ≤ 1) :
 Calls Tryz.prog 103 #[v,.int .u32 dir,.int .i64 more] w (Wrote Rep v s [tieP dir more] 1 0 S D w) := by
 have A0 := hQ_ (At.start hr)
 have HLD := hQ_ (load_calls hW.stays hW.get hW.small dir hr hl h0 h1)
 unfold LoadV at HLD
 have HS := hQ_ hW.stays
 have hbd := load_k s.shown dir
 have hl2 : Lim (s.read (kI dir)) := ⟨hl.base,by have := read_len s (kI dir); omega,hl.rg⟩
 have HSV := hQ_ (fun (l : Int) (w1 : World) (S D : Nat → Prop) (hr1 : Rep w1 v (s.read (kI dir)) S D) (b0 : 0 ≤ l) (b1 : l ≤ 4294967295) => hW.save dir (loadM s.shown dir).1.k l (loadM s.shown dir).1.s (loadM s.shown dir).1.p hr1 hl2 h0 h1 ⟨hbd.1,hbd.2.1,b0,b1,hbd.2.2.2.2.1,hbd.2.2.2.2.2.1,hbd.2.2.2.2.2.2.1,hbd.2.2.2.2.2.2.2⟩)
 have HFIN : Hid (∀ l,l = u32 ((loadM s.shown dir).1.l + more) → (tieP dir more s.shown) = ⟨kI dir,nput (loadM s.shown dir).1.k l (loadM s.shown dir).1.s (loadM s.shown dir).1.p,false⟩) := hQ_ (fun l hl => by rw [hl]; rfl)
 have hrl := hQ_ (read_len s (kI dir))
 generalize (loadM s.shown dir).2 = bb at *
 generalize (loadM s.shown dir).1 = xx at *
 obtain ⟨xk,xl,xz,xp⟩ := xx
 dsimp only at HLD HSV HFIN hbd
 obtain ⟨b0,b1,b2,b3,b4,b5,b6,b7⟩ := hbd
 clear hr hl hl2 h2
 go_enter Tryz.func103,Tryz.ntmps103
 go_wp2_with fail
 refine HLD.out.mono ?_
 rintro e w2 ⟨S2,D2,rfl,hr2,st2⟩
 have hbn := bN_ w2 (.cells #[.int .u8 xk,.int .u32 ((xl + more) % 4294967296),.int .u32 xz,.int .u32 xp] 46)
 have A2 := hQ_ ((A0.out.step HS.out hr2 st2).below HS.out hbn)
 clear hr2 st2 hbn
 go_wp2_with fail
 refine (HSV.out ((xl + more) % 4294967296) _ _ _ A2.out.rep (by omega) (by omega)).mono ?_
 rintro e w3 ⟨S3,D3,rfl,hr3,st3⟩
 have A3 := hQ_ (A2.out.step HS.out hr3 st3)
 clear st3 hr3
 go_wp2_with fail
 go_ret
 exact wrote_one (HFIN.out _ rfl) ((Sm.refl s).read _) hrl.out (Nat.le_refl _) A3.out.rep A3.out.st
theorem adopt_calls (hW : Wk Rep) {w : World} {v : Value} {s : Vs} {S D : Nat → Prop} (parent ino : Int) (hr : Rep w v s S D) (hl : Lim s) (h2 : s.rd.length ≤ 19990) (h0 : 0 ≤ ino) (h1 : ino ≤ 4294967295) (p0 : 0 ≤ parent) (p1 : parent ≤ 4294967295) :
 Calls Tryz.prog 138 #[v,.int .u32 parent,.int .u32 ino] w (Wrote Rep v s [adoptP parent ino] 1 0 S D w) := by
 have A0 := hQ_ (At.start hr)
 have HLD := hQ_ (load_calls hW.stays hW.get hW.small ino hr hl h0 h1)
 unfold LoadV at HLD
 have HS := hQ_ hW.stays
 have hbd := load_k s.shown ino
 have hl2 : Lim (s.read (kI ino)) := ⟨hl.base,by have := read_len s (kI ino); omega,hl.rg⟩
 have HSV := hQ_ (fun (w1 : World) (S D : Nat → Prop) (hr1 : Rep w1 v (s.read (kI ino)) S D) => hW.save ino (loadM s.shown ino).1.k (loadM s.shown ino).1.l (loadM s.shown ino).1.s parent hr1 hl2 h0 h1 ⟨hbd.1,hbd.2.1,hbd.2.2.1,hbd.2.2.2.1,hbd.2.2.2.2.1,hbd.2.2.2.2.2.1,p0,p1⟩)
 have HFIN : Hid ((adoptP parent ino s.shown) = ⟨kI ino,nput (loadM s.shown ino).1.k (loadM s.shown ino).1.l (loadM s.shown ino).1.s parent,false⟩) := hQ_ rfl
 have hrl := hQ_ (read_len s (kI ino))
 generalize (loadM s.shown ino).2 = bb at *
 generalize (loadM s.shown ino).1 = xx at *
 obtain ⟨xk,xl,xz,xp⟩ := xx
 dsimp only at HLD HSV HFIN
 clear hr hl hl2 h2 hbd
 go_enter Tryz.func138,Tryz.ntmps138
 go_wp2_with fail
 refine HLD.out.mono ?_
 rintro e w2 ⟨S2,D2,rfl,hr2,st2⟩
 have hbn := bN_ w2 (.cells #[.int .u8 xk,.int .u32 xl,.int .u32 xz,.int .u32 parent] 46)
 have A2 := hQ_ ((A0.out.step HS.out hr2 st2).below HS.out hbn)
 clear hr2 st2 hbn
 go_wp2_with fail
 refine (HSV.out _ _ _ A2.out.rep).mono ?_
 rintro e w3 ⟨S3,D3,rfl,hr3,st3⟩
 have A3 := hQ_ (A2.out.step HS.out hr3 st3)
 clear st3 hr3
 go_wp2_with fail
 go_ret
 exact wrote_one HFIN.out ((Sm.refl s).read _) hrl.out (Nat.le_refl _) A3.out.rep A3.out.st
theorem when_calls (b : Bool) (er : Int) (w : World) : Calls Tryz.prog 99 #[.bool b,.int .i64 er] w fun e w' => e = .returned (.int .i64 (if b then er else 0)) ∧ w = w' := by
 cases b
 all_goals
  go_enter Tryz.func99,Tryz.ntmps99
  go_wp2_with fail
  go_ret
  exact ⟨rfl,rfl⟩
theorem room_calls (b : Bool) (w : World) : Calls Tryz.prog 104 #[.bool b] w fun e w' => e = .returned (.int .i64 (if b then 0 else 21)) ∧ w = w' := by
 have H := hQ_ (fun b w => when_calls b 21 w)
 cases b
 all_goals
  go_enter Tryz.func104,Tryz.ntmps104
  go_wp2_with (go_at_call 99; refine (H.out _ _).mono ?_; rintro e w' ⟨rfl,rfl⟩)
  go_ret
  exact ⟨rfl,rfl⟩
end Go.Proofs.YtogdjbhjgbnicaaGreatDoor.DirsK
namespace Go.Proofs.YtogdjbhjgbnicaaGreatDoor.DirsKa
open Go.RowKit
open Byte KeysM KeysS KeysV KeysB KeysD TreeM TreeR ViewM NodeM NamesM NamesR NamesL NamesK WalkM WalkF WalkKm DirsV Lst Chg TreeL ViewL WalkL WalkV Vat WalkKa WalkKb DirsK
open Own hiding keeps
variable {Rep : RepT} {w : World} {v : Value} {s : Vs} {S D : Nat → Prop}
def erE : Enc Int := ⟨fun x => [.int .i64 x],1,fun _ => rfl,fun x u hu => by
 rw [List.mem_singleton.1 hu]; rfl,by decide⟩
def fst_ : List Int → Int
 | [] => 0
 | x :: r => if x = 0 then fst_ r else x
theorem er_cell {w : World} {b o k : Nat} {x : Int} (h : w.rangeAt b (o + k * erE.size) (erE.cells x)) : w.cell? ⟨b,o + k,none⟩ = some (.int .i64 x) := by
 have := h 0 _ rfl
 simpa [erE] using this
theorem first_calls (A : Option Addr) (n c : Nat) (L : List Int) (w : World) (hl : Sl erE w A n L) (hn : n ≤ 100) : Calls Tryz.prog 98 #[.slice A n c] w fun e w' => e = .returned (.int .i64 (fst_ L)) ∧ w = w' := by
 have HL := hQ_ hl
 have HLN := hQ_ hl.1
 clear hl
 go_enter Tryz.func98,Tryz.ntmps98
 go_wp2_with fail
 go_loop [7] (fun i => ∃ k : Nat,k ≤ n ∧ i = .int .i64 k ∧ Hid (fst_ (L.drop k) = fst_ L)) (fun i => n - (intOf i).toNat)
 case atStart => exact ⟨0,Nat.zero_le _,rfl,hQ_ rfl⟩
 case round =>
  obtain ⟨k,hk,rfl,HR⟩ := hrel
  by_cases hlt : k < n
  ·obtain ⟨x,g,o,hx,rfl,hg,hcl⟩ := HL.out.get k hlt
   have c1 := er_cell hcl
   have hr := HR.out
   rw [show L.drop k = x :: L.drop (k + 1) by
    obtain ⟨hk,he⟩ := List.getElem?_eq_some_iff.1 hx
    rw [List.drop_eq_getElem_cons hk,he]] at hr
   unfold fst_ at hr
   clear hcl hx
   by_cases h0 : x = 0
   ·rw [if_pos h0] at hr
    have d1 : (x != 0) = false := by simpa using h0
    have HR2 : Hid (fst_ (L.drop (k + 1)) = fst_ L) := hQ_ (by rw [hr]; cases L <;> rfl)
    clear hr HR h0
    go_wp2_with fail
    go_round
    case rel => exact ⟨k + 1,by omega,by go_num,HR2⟩
    case measure => simp [intOf]; omega
   ·rw [if_neg h0] at hr
    have d1 : (x != 0) = true := by simpa using h0
    have HE : Hid (x = fst_ L) := hQ_ (by rw [hr]; cases L <;> rfl)
    clear hr HR h0
    go_wp2_with fail
    go_ret
    exact ⟨by rw [HE.out]; rfl,rfl⟩
  ·have hr := HR.out
   rw [List.drop_eq_nil_of_le (by rw [HLN.out]; omega)] at hr
   have HE : Hid (0 = fst_ L) := hQ_ hr
   clear hr HR
   go_wp2_with fail
   go_ret
   exact ⟨by rw [HE.out]; rfl,rfl⟩
theorem first_2 (a b : Int) (w : World) : Calls Tryz.prog 98 #[.slice (some ⟨w.heap.size,0,none⟩) 2 2] (w.alloc (.cells #[.int .i64 a,.int .i64 b] 43)) fun e w' => e = .returned (.int .i64 (fst_ [a,b])) ∧ (w.alloc (.cells #[.int .i64 a,.int .i64 b] 43)) = w' :=
 first_calls _ 2 2 [a,b] _ (So.lit erE 43 w (base := w.heap.size) [a,b] #[.int .i64 a,.int .i64 b] 2 rfl rfl (Nat.le_refl _) (by decide)).sl (by decide)
theorem first_3 (a b c : Int) (w : World) : Calls Tryz.prog 98 #[.slice (some ⟨w.heap.size,0,none⟩) 3 3] (w.alloc (.cells #[.int .i64 a,.int .i64 b,.int .i64 c] 43)) fun e w' => e = .returned (.int .i64 (fst_ [a,b,c])) ∧ (w.alloc (.cells #[.int .i64 a,.int .i64 b,.int .i64 c] 43)) = w' :=
 first_calls _ 3 3 [a,b,c] _ (So.lit erE 43 w (base := w.heap.size) [a,b,c] #[.int .i64 a,.int .i64 b,.int .i64 c] 3 rfl rfl (Nat.le_refl _) (by decide)).sl (by decide)
theorem within_calls (old path : ByteArray) (w : World) (h1 : old.size ≤ 100000) (h2 : path.size ≤ 100000) (hx : Mx w) : Calls Tryz.prog 112 #[.string old,.string path] w fun e w' => e = .returned (.bool (under (spl old).1 (spl path).1)) ∧ Below w.heap.size w w' := by
 have HA := hQ_ (split_ok old w h1 hx)
 have HB := hQ_ (fun w (h : Mx w) => split_ok path w h2 h)
 unfold SplE at HA HB
 have hsa := (spl_small old).1
 have hsb := (spl_small path).1
 have HX := hQ_ hx
 generalize (spl old).1 = L at *
 generalize (spl path).1 = M at *
 generalize (spl old).2 = ea at *
 generalize (spl path).2 = eb at *
 clear hx
 go_enter Tryz.func112,Tryz.ntmps112
 go_wp2_with fail
 refine HA.out.mono ?_
 rintro e w1 ⟨A,m,c,rfl,hso,hb1⟩
 have HL1 := hQ_ hso.sl
 have HB1 := hQ_ hb1
 have HR1 := hQ_ (room_of hso)
 have hm16 : m ≤ 16 := by rw [← hso.1]; exact hsa
 clear hso hb1 hsa
 go_wp2_with fail
 refine (HB.out _ (HX.out.below HB1.out)).mono ?_
 rintro e w2 ⟨A2,m2,c2,rfl,hso,hb2⟩
 have HL := hQ_ (HL1.out.below hb2)
 have HL2 := hQ_ hso.sl
 have HB2 := hQ_ (Own.keeps HB1.out hb2)
 have HR2 := hQ_ (room_of hso)
 have hm216 : m2 ≤ 16 := by rw [← hso.1]; exact hsb
 clear hso hb2 hsb
 go_wp2_with fail
 refine (under_ok A A2 m c m2 c2 L M w2 HL.out HL2.out HR1.out HR2.out (by omega) (by omega)).mono ?_
 rintro e w3 ⟨rfl,hb3⟩
 have HB3 := hQ_ (Own.keeps HB2.out hb3)
 clear hb3
 go_wp2_with fail
 go_ret
 exact ⟨rfl,HB3.out⟩
theorem save_w (hW : Wk Rep) (ino k l z p : Int) (hr : Rep w v s S D) (hl : Lim s) (h0 : 0 ≤ ino) (h1 : ino ≤ 4294967295) (hb : InoB k l z p) : Calls Tryz.prog 101 #[v,.int .u32 ino,.agg #[.int .u8 k,.int .u32 l,.int .u32 z,.int .u32 p]] w (Wrote Rep v s [saveP ino k l z p] 0 0 S D w) :=
 (hW.save ino k l z p hr hl h0 h1 hb).mono fun e w' ⟨S',D',he,h,st⟩ => by subst he; exact wrote_one (p := saveP ino k l z p) rfl (Sm.refl s) (Nat.le_refl _) (Nat.le_refl _) h st
theorem drop_w (hW : Wk Rep) (ino : Int) (hr : Rep w v s S D) (hl : Lim s) (h0 : 0 ≤ ino) (h1 : ino ≤ 4294967295) : Calls Tryz.prog 140 #[v,.int .u32 ino] w (Wrote Rep v s [dropP ino] 0 0 S D w) :=
 (hW.drop ino hr hl h0 h1).mono fun e w' ⟨S',D',he,h,st⟩ => by subst he; exact wrote_one (p := dropP ino) rfl (Sm.refl s) (Nat.le_refl _) (Nat.le_refl _) h st
theorem hang_w (hW : Wk Rep) (dir : Int) (name : ByteArray) (ino : Int) (hr : Rep w v s S D) (hl : Lim s) (h0 : 0 ≤ dir) (h1 : dir ≤ 4294967295) (i0 : 0 ≤ ino) (i1 : ino ≤ 4294967295) (hn : name.size ≤ 100000) : Calls Tryz.prog 102 #[v,.int .u32 dir,.string name,.int .u32 ino] w (Wrote Rep v s [hangP dir name ino] 0 0 S D w) :=
 (hW.hang dir name ino hr hl h0 h1 i0 i1 hn).mono fun e w' ⟨S',D',he,h,st⟩ => by subst he; exact wrote_one (p := hangP dir name ino) rfl (Sm.refl s) (Nat.le_refl _) (Nat.le_refl _) h st
theorem unhang_w (hW : Wk Rep) (dir : Int) (name : ByteArray) (hr : Rep w v s S D) (hl : Lim s) (h0 : 0 ≤ dir) (h1 : dir ≤ 4294967295) (hn : name.size ≤ 100000) : Calls Tryz.prog 137 #[v,.int .u32 dir,.string name] w (Wrote Rep v s [unhangP dir name] 0 0 S D w) :=
 (hW.unhang dir name hr hl h0 h1 hn).mono fun e w' ⟨S',D',he,h,st⟩ => by subst he; exact wrote_one (p := unhangP dir name) rfl (Sm.refl s) (Nat.le_refl _) (Nat.le_refl _) h st
def cutP (k : ByteArray) : Wrt := fun _ => ⟨k,⟨#[]⟩,true⟩
theorem cut_w (hW : Wk Rep) (k : ByteArray) (hr : Rep w v s S D) (hl : Lim s) (hk : k.size ≤ 100000) : Calls Tryz.prog 133 #[v,.string k] w (Wrote Rep v s [cutP k] 0 0 S D w) :=
 (hW.cut k hr hl (by omega)).mono fun e w' ⟨S',D',he,h,st⟩ => by subst he; exact wrote_one (p := cutP k) rfl (Sm.refl s) (Nat.le_refl _) (Nat.le_refl _) h st
theorem Wrote.split {v : Value} {s : Vs} {ps : List Wrt} {k m : Nat} {S D : Nat → Prop} {w : World} {e : Ending} {w' : World} (h : Wrote Rep v s ps k m S D w e w') :
 (∃ s' S' D',e = .returned (.bool true) ∧ (goW s ps).2 = true ∧ Rep w' v s' S' D' ∧ Stp S D S' D' w w' ∧ Aft s s' ps k m) ∨ (∃ s' S' D',e = .returned (.bool false) ∧ (goW s ps).2 = false ∧ Rep w' v s' S' D' ∧ Stp S D S' D' w w' ∧ Aft s s' ps k m) := by
 obtain ⟨s',S',D',he,hr,st,ha⟩ := h
 cases ho : (goW s ps).2 with
 | true => rw [ho] at he; exact .inl ⟨s',S',D',he,rfl,hr,st,ha⟩
 | false => rw [ho] at he; exact .inr ⟨s',S',D',he,rfl,hr,st,ha⟩
def Ans (Rep : RepT) (v : Value) (s : Vs) (er : Int) (ps : List Wrt) (k m : Nat) (S D : Nat → Prop) (w : World) (e : Ending) (w' : World) : Prop := ∃ s' S' D',e = .returned (.int .i64 (if (goW s ps).2 = true then er else 21)) ∧ Rep w' v s' S' D' ∧ Stp S D S' D' w w' ∧ Aft s s' ps k m
theorem Ans.ok {v : Value} {s s' : Vs} {er : Int} {ps : List Wrt} {k m : Nat} {S D M S' D' : Nat → Prop} {w w' : World} (A : At Rep w S D M w' v s' S' D') (h : Aft s s' ps k m ∧ (goW s ps).2 = true) : Ans Rep v s er ps k m S D w (.returned (.int .i64 er)) w' := ⟨s',S',D',by rw [h.2]; rfl,A.rep,A.st,h.1⟩
theorem Ans.full {v : Value} {s s' : Vs} {er : Int} {ps : List Wrt} {k m : Nat} {S D M S' D' : Nat → Prop} {w w' : World} (A : At Rep w S D M w' v s' S' D') (h : Aft s s' ps k m ∧ (goW s ps).2 = false) : Ans Rep v s er ps k m S D w (.returned (.int .i64 21)) w' := ⟨s',S',D',by rw [h.2]; rfl,A.rep,A.st,h.1⟩
theorem Ans.split {v : Value} {s : Vs} {er : Int} {ps : List Wrt} {k m : Nat} {S D : Nat → Prop} {w : World} {e : Ending} {w' : World} (h : Ans Rep v s er ps k m S D w e w') :
 (∃ s' S' D',e = .returned (.int .i64 er) ∧ (goW s ps).2 = true ∧ Rep w' v s' S' D' ∧ Stp S D S' D' w w' ∧ Aft s s' ps k m) ∨ (∃ s' S' D',e = .returned (.int .i64 21) ∧ (goW s ps).2 = false ∧ Rep w' v s' S' D' ∧ Stp S D S' D' w w' ∧ Aft s s' ps k m) := by
 obtain ⟨s',S',D',he,hr,st,ha⟩ := h
 cases ho : (goW s ps).2 with
 | true => rw [ho] at he; exact .inl ⟨s',S',D',he,rfl,hr,st,ha⟩
 | false => rw [ho] at he; exact .inr ⟨s',S',D',he,rfl,hr,st,ha⟩
end Go.Proofs.YtogdjbhjgbnicaaGreatDoor.DirsKa
namespace Go.Proofs.YtogdjbhjgbnicaaGreatDoor.DirsKb
open Go.RowKit
open Byte KeysM TreeM ViewM ViewKm NodeM NamesM NamesL WalkM WalkF WalkKm DirsV Lst Chg TreeL ViewL WalkL WalkV Vat WalkKa WalkKb DirsK DirsKa
open Own hiding keeps
variable {Rep : RepT} {w : World} {v : Value} {s : Vs} {S D : Nat → Prop}
theorem ranged_rd (s : Vs) (a b : ByteArray) : (s.ranged a b).rd.length = s.rd.length := by
 unfold Vs.ranged
 split <;> rfl
theorem ranged_rg (s : Vs) (a b : ByteArray) : (s.ranged a b).rg.length ≤ s.rg.length + 1 := by
 unfold Vs.ranged
 split
 ·show (addR a b s.rg).length ≤ _
  unfold addR
  split
  ·omega
  ·simp
 ·omega
theorem Wrote.of_ok {v : Value} {s s' : Vs} {ps : List Wrt} {k m : Nat} {S D M S' D' : Nat → Prop} {w w' : World} (A : At Rep w S D M w' v s' S' D') (h : Aft s s' ps k m ∧ (goW s ps).2 = true) : Wrote Rep v s ps k m S D w (.returned (.bool true)) w' := ⟨s',S',D',by rw [h.2],A.rep,A.st,h.1⟩
theorem Wrote.of_bad {v : Value} {s s' : Vs} {ps : List Wrt} {k m : Nat} {S D M S' D' : Nat → Prop} {w w' : World} (A : At Rep w S D M w' v s' S' D') (h : Aft s s' ps k m ∧ (goW s ps).2 = false) : Wrote Rep v s ps k m S D w (.returned (.bool false)) w' := ⟨s',S',D',by rw [h.2],A.rep,A.st,h.1⟩
theorem cut_sub {s : Vs} (ho : s.Ok) (k : ByteArray) : ∀ p ∈ (s.write ⟨k,⟨#[]⟩,true⟩).shown,p ∈ s.shown := fun p hp => by
 unfold Vs.write at hp
 split at hp
 ·exact hp
 ·have h1 : p ∈ shownL s.base (writeW s.base s.wr ⟨k,⟨#[]⟩,true⟩) := hp
  rw [shown_write ho.base ho.wr,mem_done] at h1
  rcases h1 with ⟨h2,_⟩ | ⟨h2,_⟩
  ·cases h2
  ·exact h2
theorem unh_sm {s s' : Vs} {d : Int} {n : ByteArray} {k m : Nat} (h : Aft s s' ([] ++ [unhangP d n]) k m) : s'.shown = (s.write ⟨kE d n,⟨#[]⟩,true⟩).shown := by
 rw [h.sm.shown,List.nil_append]
 unfold goW
 split
 ·rename_i hf
  rw [write_room (p := ⟨kE d n,⟨#[]⟩,true⟩) hf]
 ·rfl
theorem remove_calls (hW0 : Wk Rep) (xd xi xk xl xz xp : Int) (xn : ByteArray) (hr : Rep w v s S D) (hl : Lim s) (h2 : s.rd.length ≤ 19900) (h3 : s.rg.length ≤ 990) (hd0 : 0 ≤ xd) (hd1 : xd ≤ 4294967295) (hi0 : 0 ≤ xi) (hi1 : xi ≤ 4294967295) (hn0 : xn.size ≤ 100000) (hk : ∀ p ∈ s.shown,(sp p.key).letter ≠ 0) :
 Calls Tryz.prog 116 #[v,.agg #[.int .u32 xd,.string xn,.int .u32 xi,.int .u8 xk,.int .u32 xl,.int .u32 xz,.int .u32 xp]] w (Ans Rep v s (remV s.shown ⟨xd,xn,xi,⟨xk,xl,xz,xp⟩⟩).1 (remV s.shown ⟨xd,xn,xi,⟨xk,xl,xz,xp⟩⟩).2 1 1 S D w) := by
 obtain ⟨W,hW⟩ : ∃ W,w.alloc (.cells #[.int .u32 xd,.string xn,.int .u32 xi,.int .u8 xk,.int .u32 xl,.int .u32 xz,.int .u32 xp] 150) = W := ⟨_,rfl⟩
 have hbW : Below w.heap.size w W := by rw [← hW]; exact bW_
 have A0 := hQ_ ((At.start hr).own hW0.stays hbW (Nat.le_refl w.heap.size) (by rw [← hW]; simp))
 have X0 := hQ_ (show Blk W w.heap.size #[.int .u32 xd,.string xn,.int .u32 xi,.int .u8 xk,.int .u32 xl,.int .u32 xz,.int .u32 xp] 150 from hW ▸ Blk.new_ w _ _)
 have HW := hQ_ hW
 have HS := hQ_ hW0.stays
 have HWK := hQ_ hW0
 have HL := hQ_ hl
 have HRO := hQ_ room_calls
 have C0 := hQ_ (aft0 s)
 have HLS := hQ_ (fun w (S D : Nat → Prop) (hr : Rep w v s S D) => hW0.list xi hr hl hi0 hi1 hk)
 have HV : Hid (remV s.shown ⟨xd,xn,xi,⟨xk,xl,xz,xp⟩⟩ = if xk ≠ 2 then (12,[]) else if (listM xi s.shown).length ≠ 0 then (14,[]) else (0,[unhangP xd xn,dropP xi,tieP xd (-1)])) := hQ_ rfl
 rw [HV.out]
 clear hr hl hk hW hbW HV
 have f0_X0 := cC7 X0.out
 by_cases hk : xk = 2
 ·rw [if_neg (fun h => h hk)]
  have d1 : (xk != 2) = false := by simpa using hk
  clear hk
  by_cases hl : (listM xi s.shown).length = 0
  ·rw [if_neg (fun h => h hl)]
   dsimp only
   go_enter Tryz.func116,Tryz.ntmps116
   go_wp2_with fail
   rw [HW.out]
   go_wp2_with fail
   refine (HLS.out _ _ _ A0.out.rep).mono ?_
   rintro e w1 ⟨ra,rm,rc,a,b,S1,D1,rfl,hsl,hr,st⟩
   have hz := hsl.1
   have C1 : Hid (Aft s (s.ranged a b) [] 0 1 ∧ (goW s []).2 = true) := hQ_ ⟨Aft.nil ((Sm.refl s).ranged a b) (Nat.le_of_eq (ranged_rd s a b)) (ranged_rg s a b),rfl⟩
   have A1 := hQ_ (A0.out.step HS.out hr st)
   have X1 := hQ_ (A0.out.blk HS.out X0.out (.inr rfl) st)
   have f1_X0 := cC7 X1.out
   clear st hr f0_X0
   have q1 : decide ((0 : Int) < (rm : Int)) = false := by simp; omega
   have q2 : decide (0 < rm) = false := by simp; omega
   clear hsl hz hl
   go_wp2_with fail
   refine (unhang_w HWK.out xd xn A1.out.rep (lim_aft C1.out.1 HL.out (by omega) (by omega)) (by omega) (by omega) (by omega)).mono ?_
   intro e w2 hh
   rcases Wrote.split hh with ⟨s2,S2,D2,rfl,ho,hr,st,ha⟩ | ⟨s2,S2,D2,rfl,ho,hr,st,ha⟩
   ·obtain ⟨x1,x2⟩ := C1.out.1.app C1.out.2 ha
    have C2 := hQ_ (And.intro x1 (x2.trans ho))
    clear x1 x2 ho ha
    have A2 := hQ_ (A1.out.step HS.out hr st)
    have X2 := hQ_ (A1.out.blk HS.out X1.out (.inr rfl) st)
    obtain ⟨f2_X0,f2_X1,f2_X2,f2_X3,f2_X4,f2_X5,f2_X6⟩ := cC7 X2.out
    clear st hr f1_X0
    go_wp2_with fail
    refine (drop_w HWK.out xi A2.out.rep (lim_aft C2.out.1 HL.out (by omega) (by omega)) (by omega) (by omega)).mono ?_
    intro e w3 hh
    rcases Wrote.split hh with ⟨s3,S3,D3,rfl,ho,hr,st,ha⟩ | ⟨s3,S3,D3,rfl,ho,hr,st,ha⟩
    ·obtain ⟨x1,x2⟩ := C2.out.1.app C2.out.2 ha
     have C3 := hQ_ (And.intro x1 (x2.trans ho))
     clear x1 x2 ho ha
     have A3 := hQ_ (A2.out.step HS.out hr st)
     have X3 := hQ_ (A2.out.blk HS.out X2.out (.inr rfl) st)
     obtain ⟨f3_X0,f3_X1,f3_X2,f3_X3,f3_X4,f3_X5,f3_X6⟩ := cC7 X3.out
     clear st hr f2_X0 f2_X1 f2_X2 f2_X3 f2_X4 f2_X5 f2_X6
     go_wp2_with fail
     refine (tie_calls HWK.out xd (-1) A3.out.rep (lim_aft C3.out.1 HL.out (by omega) (by omega)) (by have := C3.out.1.rd; omega) (by omega) (by omega) (by omega) (by omega)).mono ?_
     intro e w4 hh
     rcases Wrote.split hh with ⟨s4,S4,D4,rfl,ho,hr,st,ha⟩ | ⟨s4,S4,D4,rfl,ho,hr,st,ha⟩
     ·obtain ⟨x1,x2⟩ := C3.out.1.app C3.out.2 ha
      have C4 := hQ_ (And.intro x1 (x2.trans ho))
      clear x1 x2 ho ha
      have A4 := hQ_ (A3.out.step HS.out hr st)
      have X4 := hQ_ (A3.out.blk HS.out X3.out (.inr rfl) st)
      obtain ⟨f4_X0,f4_X1,f4_X2,f4_X3,f4_X4,f4_X5,f4_X6⟩ := cC7 X4.out
      clear st hr f3_X0 f3_X1 f3_X2 f3_X3 f3_X4 f3_X5 f3_X6
      go_wp2_with (go_at_call 104; refine (HRO.out _ _).mono ?_; rintro e w9 ⟨rfl,rfl⟩)
      go_ret
      exact Ans.ok A4.out ⟨C4.out.1.more (by omega) (by omega),C4.out.2⟩
     ·obtain ⟨x1,x2⟩ := C3.out.1.app C3.out.2 ha
      have C4 := hQ_ (And.intro x1 (x2.trans ho))
      clear x1 x2 ho ha
      have A4 := hQ_ (A3.out.step HS.out hr st)
      have X4 := hQ_ (A3.out.blk HS.out X3.out (.inr rfl) st)
      obtain ⟨f4_X0,f4_X1,f4_X2,f4_X3,f4_X4,f4_X5,f4_X6⟩ := cC7 X4.out
      clear st hr f3_X0 f3_X1 f3_X2 f3_X3 f3_X4 f3_X5 f3_X6
      go_wp2_with (go_at_call 104; refine (HRO.out _ _).mono ?_; rintro e w9 ⟨rfl,rfl⟩)
      go_ret
      exact Ans.full A4.out ⟨(Aft.stop (qs := []) C4.out.1 C4.out.2).1.more (by omega) (by omega),(Aft.stop (qs := []) C4.out.1 C4.out.2).2⟩
    ·obtain ⟨x1,x2⟩ := C2.out.1.app C2.out.2 ha
     have C3 := hQ_ (And.intro x1 (x2.trans ho))
     clear x1 x2 ho ha
     have A3 := hQ_ (A2.out.step HS.out hr st)
     have X3 := hQ_ (A2.out.blk HS.out X2.out (.inr rfl) st)
     obtain ⟨f3_X0,f3_X1,f3_X2,f3_X3,f3_X4,f3_X5,f3_X6⟩ := cC7 X3.out
     clear st hr f2_X0 f2_X1 f2_X2 f2_X3 f2_X4 f2_X5 f2_X6
     go_wp2_with (go_at_call 104; refine (HRO.out _ _).mono ?_; rintro e w9 ⟨rfl,rfl⟩)
     go_ret
     exact Ans.full A3.out ⟨(Aft.stop (qs := [tieP xd (-1)]) C3.out.1 C3.out.2).1.more (by omega) (by omega),(Aft.stop (qs := [tieP xd (-1)]) C3.out.1 C3.out.2).2⟩
   ·obtain ⟨x1,x2⟩ := C1.out.1.app C1.out.2 ha
    have C2 := hQ_ (And.intro x1 (x2.trans ho))
    clear x1 x2 ho ha
    have A2 := hQ_ (A1.out.step HS.out hr st)
    have X2 := hQ_ (A1.out.blk HS.out X1.out (.inr rfl) st)
    obtain ⟨f2_X0,f2_X1,f2_X2,f2_X3,f2_X4,f2_X5,f2_X6⟩ := cC7 X2.out
    clear st hr f1_X0
    go_wp2_with (go_at_call 104; refine (HRO.out _ _).mono ?_; rintro e w9 ⟨rfl,rfl⟩)
    go_ret
    exact Ans.full A2.out ⟨(Aft.stop (qs := [dropP xi,tieP xd (-1)]) C2.out.1 C2.out.2).1.more (by omega) (by omega),(Aft.stop (qs := [dropP xi,tieP xd (-1)]) C2.out.1 C2.out.2).2⟩
  ·rw [if_pos hl]
   dsimp only
   go_enter Tryz.func116,Tryz.ntmps116
   go_wp2_with fail
   rw [HW.out]
   go_wp2_with fail
   refine (HLS.out _ _ _ A0.out.rep).mono ?_
   rintro e w5 ⟨ra,rm,rc,a,b,S5,D5,rfl,hsl,hr,st⟩
   have hz := hsl.1
   have C5 : Hid (Aft s (s.ranged a b) [] 0 1 ∧ (goW s []).2 = true) := hQ_ ⟨Aft.nil ((Sm.refl s).ranged a b) (Nat.le_of_eq (ranged_rd s a b)) (ranged_rg s a b),rfl⟩
   have A5 := hQ_ (A0.out.step HS.out hr st)
   have X5 := hQ_ (A0.out.blk HS.out X0.out (.inr rfl) st)
   have f5_X0 := cC7 X5.out
   clear st hr f0_X0
   have q1 : decide ((0 : Int) < (rm : Int)) = true := by simp; omega
   have q2 : decide (0 < rm) = true := by simp; omega
   clear hsl hz hl
   go_wp2_with fail
   go_ret
   exact Ans.ok A5.out ⟨C5.out.1.more (by omega) (by omega),C5.out.2⟩
 ·rw [if_pos hk]
  have d1 : (xk != 2) = true := by simpa using hk
  clear hk
  dsimp only
  go_enter Tryz.func116,Tryz.ntmps116
  go_wp2_with fail
  rw [HW.out]
  go_wp2_with fail
  go_ret
  exact Ans.ok A0.out ⟨C0.out.1.more (by omega) (by omega),C0.out.2⟩
theorem move_far (hW0 : Wk Rep) (xd xi xk xl xz xp : Int) (xn : ByteArray) (yd yi yk yl yz yp : Int) (yn : ByteArray) (hr : Rep w v s S D) (hl : Lim s) (h2 : s.rd.length ≤ 19900) (h3 : s.rg.length ≤ 990) (hd0 : 0 ≤ xd) (hd1 : xd ≤ 4294967295) (hi0 : 0 ≤ xi) (hi1 : xi ≤ 4294967295) (hn0 : xn.size ≤ 100000) (jd0 : 0 ≤ yd) (jd1 : yd ≤ 4294967295) (ji0 : 0 ≤ yi) (ji1 : yi ≤ 4294967295) (jn0 : yn.size ≤ 100000) (hk : xk = 2) (hne : xd ≠ yd) :
 Calls Tryz.prog 114 #[v,.agg #[.int .u32 xd,.string xn,.int .u32 xi,.int .u8 xk,.int .u32 xl,.int .u32 xz,.int .u32 xp],.agg #[.int .u32 yd,.string yn,.int .u32 yi,.int .u8 yk,.int .u32 yl,.int .u32 yz,.int .u32 yp]] w (Wrote Rep v s [unhangP xd xn,hangP yd yn xi,adoptP yd xi,tieP xd (-1),tieP yd 1] 3 0 S D w) := by
 obtain ⟨W,hW⟩ : ∃ W,(w.alloc (.cells #[.int .u32 xd,.string xn,.int .u32 xi,.int .u8 xk,.int .u32 xl,.int .u32 xz,.int .u32 xp] 150)).alloc (.cells #[.int .u32 yd,.string yn,.int .u32 yi,.int .u8 yk,.int .u32 yl,.int .u32 yz,.int .u32 yp] 150) = W := ⟨_,rfl⟩
 have hb1 := bN_ w (.cells #[.int .u32 xd,.string xn,.int .u32 xi,.int .u8 xk,.int .u32 xl,.int .u32 xz,.int .u32 xp] 150)
 have A0 : Hid (At Rep w S D (fun b => (False ∨ b = w.heap.size) ∨ b = w.heap.size + 1) W v s S D) := hQ_ (by
  rw [← hW]
  exact ((At.start hr).own hW0.stays hb1 (Nat.le_refl w.heap.size) (by simp)).own hW0.stays (bW_) (by simp) (by simp))
 have X0 := hQ_ (show Blk W w.heap.size #[.int .u32 xd,.string xn,.int .u32 xi,.int .u8 xk,.int .u32 xl,.int .u32 xz,.int .u32 xp] 150 from hW ▸ (Blk.new_ w _ _).alloc _)
 have Y0 : Hid (Blk W (w.heap.size + 1) #[.int .u32 yd,.string yn,.int .u32 yi,.int .u8 yk,.int .u32 yl,.int .u32 yz,.int .u32 yp] 150) := hQ_ (by
  rw [← hW]
  have := Blk.new_ (w.alloc (.cells #[.int .u32 xd,.string xn,.int .u32 xi,.int .u8 xk,.int .u32 xl,.int .u32 xz,.int .u32 xp] 150)) #[.int .u32 yd,.string yn,.int .u32 yi,.int .u8 yk,.int .u32 yl,.int .u32 yz,.int .u32 yp] 150
  simpa using this)
 have HW := hQ_ hW
 have HS := hQ_ hW0.stays
 have HWK := hQ_ hW0
 have HL := hQ_ hl
 have C0 := hQ_ (aft0 s)
 have f0_X0 := cC7 X0.out
 have f0_Y0 := cC7 Y0.out
 have e1 : (xk != 2) = false := by simpa using hk
 have e2 : (xd == yd) = false := by simpa using hne
 clear hk hne hr hl hW hb1
 go_enter Tryz.func114,Tryz.ntmps114
 go_wp2_with fail
 rw [HW.out]
 go_wp2_with fail
 refine (unhang_w HWK.out xd xn A0.out.rep (lim_aft C0.out.1 HL.out (by omega) (by omega)) (by omega) (by omega) (by omega)).mono ?_
 intro e w1 hh
 rcases Wrote.split hh with ⟨s1,S1,D1,rfl,ho,hr,st,ha⟩ | ⟨s1,S1,D1,rfl,ho,hr,st,ha⟩
 ·obtain ⟨x1,x2⟩ := C0.out.1.app C0.out.2 ha
  have C1 := hQ_ (And.intro x1 (x2.trans ho))
  clear x1 x2 ho ha
  have A1 := hQ_ (A0.out.step HS.out hr st)
  have X1 := hQ_ (A0.out.blk HS.out X0.out (.inl (.inr rfl)) st)
  have Y1 := hQ_ (A0.out.blk HS.out Y0.out (.inr rfl) st)
  obtain ⟨f1_X0,f1_X1,f1_X2,f1_X3,f1_X4,f1_X5,f1_X6⟩ := cC7 X1.out
  obtain ⟨f1_Y0,f1_Y1,f1_Y2,f1_Y3,f1_Y4,f1_Y5,f1_Y6⟩ := cC7 Y1.out
  clear st hr f0_X0 f0_Y0
  go_wp2_with fail
  refine (hang_w HWK.out yd yn xi A1.out.rep (lim_aft C1.out.1 HL.out (by omega) (by omega)) (by omega) (by omega) (by omega) (by omega) (by omega)).mono ?_
  intro e w2 hh
  rcases Wrote.split hh with ⟨s2,S2,D2,rfl,ho,hr,st,ha⟩ | ⟨s2,S2,D2,rfl,ho,hr,st,ha⟩
  ·obtain ⟨x1,x2⟩ := C1.out.1.app C1.out.2 ha
   have C2 := hQ_ (And.intro x1 (x2.trans ho))
   clear x1 x2 ho ha
   have A2 := hQ_ (A1.out.step HS.out hr st)
   have X2 := hQ_ (A1.out.blk HS.out X1.out (.inl (.inr rfl)) st)
   have Y2 := hQ_ (A1.out.blk HS.out Y1.out (.inr rfl) st)
   obtain ⟨f2_X0,f2_X1,f2_X2,f2_X3,f2_X4,f2_X5,f2_X6⟩ := cC7 X2.out
   obtain ⟨f2_Y0,f2_Y1,f2_Y2,f2_Y3,f2_Y4,f2_Y5,f2_Y6⟩ := cC7 Y2.out
   clear st hr f1_X0 f1_X1 f1_X2 f1_X3 f1_X4 f1_X5 f1_X6 f1_Y0 f1_Y1 f1_Y2 f1_Y3 f1_Y4 f1_Y5 f1_Y6
   go_wp2_with fail
   refine (adopt_calls HWK.out yd xi A2.out.rep (lim_aft C2.out.1 HL.out (by omega) (by omega)) (by have := C2.out.1.rd; omega) (by omega) (by omega) (by omega) (by omega)).mono ?_
   intro e w3 hh
   rcases Wrote.split hh with ⟨s3,S3,D3,rfl,ho,hr,st,ha⟩ | ⟨s3,S3,D3,rfl,ho,hr,st,ha⟩
   ·obtain ⟨x1,x2⟩ := C2.out.1.app C2.out.2 ha
    have C3 := hQ_ (And.intro x1 (x2.trans ho))
    clear x1 x2 ho ha
    have A3 := hQ_ (A2.out.step HS.out hr st)
    have X3 := hQ_ (A2.out.blk HS.out X2.out (.inl (.inr rfl)) st)
    have Y3 := hQ_ (A2.out.blk HS.out Y2.out (.inr rfl) st)
    obtain ⟨f3_X0,f3_X1,f3_X2,f3_X3,f3_X4,f3_X5,f3_X6⟩ := cC7 X3.out
    obtain ⟨f3_Y0,f3_Y1,f3_Y2,f3_Y3,f3_Y4,f3_Y5,f3_Y6⟩ := cC7 Y3.out
    clear st hr f2_X0 f2_X1 f2_X2 f2_X3 f2_X4 f2_X5 f2_X6 f2_Y0 f2_Y1 f2_Y2 f2_Y3 f2_Y4 f2_Y5 f2_Y6
    go_wp2_with fail
    refine (tie_calls HWK.out xd (-1) A3.out.rep (lim_aft C3.out.1 HL.out (by omega) (by omega)) (by have := C3.out.1.rd; omega) (by omega) (by omega) (by omega) (by omega)).mono ?_
    intro e w4 hh
    rcases Wrote.split hh with ⟨s4,S4,D4,rfl,ho,hr,st,ha⟩ | ⟨s4,S4,D4,rfl,ho,hr,st,ha⟩
    ·obtain ⟨x1,x2⟩ := C3.out.1.app C3.out.2 ha
     have C4 := hQ_ (And.intro x1 (x2.trans ho))
     clear x1 x2 ho ha
     have A4 := hQ_ (A3.out.step HS.out hr st)
     have X4 := hQ_ (A3.out.blk HS.out X3.out (.inl (.inr rfl)) st)
     have Y4 := hQ_ (A3.out.blk HS.out Y3.out (.inr rfl) st)
     obtain ⟨f4_X0,f4_X1,f4_X2,f4_X3,f4_X4,f4_X5,f4_X6⟩ := cC7 X4.out
     obtain ⟨f4_Y0,f4_Y1,f4_Y2,f4_Y3,f4_Y4,f4_Y5,f4_Y6⟩ := cC7 Y4.out
     clear st hr f3_X0 f3_X1 f3_X2 f3_X3 f3_X4 f3_X5 f3_X6 f3_Y0 f3_Y1 f3_Y2 f3_Y3 f3_Y4 f3_Y5 f3_Y6
     go_wp2_with fail
     refine (tie_calls HWK.out yd (1) A4.out.rep (lim_aft C4.out.1 HL.out (by omega) (by omega)) (by have := C4.out.1.rd; omega) (by omega) (by omega) (by omega) (by omega)).mono ?_
     intro e w5 hh
     rcases Wrote.split hh with ⟨s5,S5,D5,rfl,ho,hr,st,ha⟩ | ⟨s5,S5,D5,rfl,ho,hr,st,ha⟩
     ·obtain ⟨x1,x2⟩ := C4.out.1.app C4.out.2 ha
      have C5 := hQ_ (And.intro x1 (x2.trans ho))
      clear x1 x2 ho ha
      have A5 := hQ_ (A4.out.step HS.out hr st)
      have X5 := hQ_ (A4.out.blk HS.out X4.out (.inl (.inr rfl)) st)
      have Y5 := hQ_ (A4.out.blk HS.out Y4.out (.inr rfl) st)
      obtain ⟨f5_X0,f5_X1,f5_X2,f5_X3,f5_X4,f5_X5,f5_X6⟩ := cC7 X5.out
      obtain ⟨f5_Y0,f5_Y1,f5_Y2,f5_Y3,f5_Y4,f5_Y5,f5_Y6⟩ := cC7 Y5.out
      clear st hr f4_X0 f4_X1 f4_X2 f4_X3 f4_X4 f4_X5 f4_X6 f4_Y0 f4_Y1 f4_Y2 f4_Y3 f4_Y4 f4_Y5 f4_Y6
      go_wp2_with fail
      go_ret
      exact Wrote.of_ok A5.out ⟨C5.out.1.more (by omega) (by omega),C5.out.2⟩
     ·obtain ⟨x1,x2⟩ := C4.out.1.app C4.out.2 ha
      have C5 := hQ_ (And.intro x1 (x2.trans ho))
      clear x1 x2 ho ha
      have A5 := hQ_ (A4.out.step HS.out hr st)
      have X5 := hQ_ (A4.out.blk HS.out X4.out (.inl (.inr rfl)) st)
      have Y5 := hQ_ (A4.out.blk HS.out Y4.out (.inr rfl) st)
      obtain ⟨f5_X0,f5_X1,f5_X2,f5_X3,f5_X4,f5_X5,f5_X6⟩ := cC7 X5.out
      obtain ⟨f5_Y0,f5_Y1,f5_Y2,f5_Y3,f5_Y4,f5_Y5,f5_Y6⟩ := cC7 Y5.out
      clear st hr f4_X0 f4_X1 f4_X2 f4_X3 f4_X4 f4_X5 f4_X6 f4_Y0 f4_Y1 f4_Y2 f4_Y3 f4_Y4 f4_Y5 f4_Y6
      go_wp2_with fail
      go_ret
      exact Wrote.of_bad A5.out ⟨(Aft.stop (qs := []) C5.out.1 C5.out.2).1.more (by omega) (by omega),(Aft.stop (qs := []) C5.out.1 C5.out.2).2⟩
    ·obtain ⟨x1,x2⟩ := C3.out.1.app C3.out.2 ha
     have C4 := hQ_ (And.intro x1 (x2.trans ho))
     clear x1 x2 ho ha
     have A4 := hQ_ (A3.out.step HS.out hr st)
     have X4 := hQ_ (A3.out.blk HS.out X3.out (.inl (.inr rfl)) st)
     have Y4 := hQ_ (A3.out.blk HS.out Y3.out (.inr rfl) st)
     obtain ⟨f4_X0,f4_X1,f4_X2,f4_X3,f4_X4,f4_X5,f4_X6⟩ := cC7 X4.out
     obtain ⟨f4_Y0,f4_Y1,f4_Y2,f4_Y3,f4_Y4,f4_Y5,f4_Y6⟩ := cC7 Y4.out
     clear st hr f3_X0 f3_X1 f3_X2 f3_X3 f3_X4 f3_X5 f3_X6 f3_Y0 f3_Y1 f3_Y2 f3_Y3 f3_Y4 f3_Y5 f3_Y6
     go_wp2_with fail
     go_ret
     exact Wrote.of_bad A4.out ⟨(Aft.stop (qs := [tieP yd (1)]) C4.out.1 C4.out.2).1.more (by omega) (by omega),(Aft.stop (qs := [tieP yd (1)]) C4.out.1 C4.out.2).2⟩
   ·obtain ⟨x1,x2⟩ := C2.out.1.app C2.out.2 ha
    have C3 := hQ_ (And.intro x1 (x2.trans ho))
    clear x1 x2 ho ha
    have A3 := hQ_ (A2.out.step HS.out hr st)
    have X3 := hQ_ (A2.out.blk HS.out X2.out (.inl (.inr rfl)) st)
    have Y3 := hQ_ (A2.out.blk HS.out Y2.out (.inr rfl) st)
    obtain ⟨f3_X0,f3_X1,f3_X2,f3_X3,f3_X4,f3_X5,f3_X6⟩ := cC7 X3.out
    obtain ⟨f3_Y0,f3_Y1,f3_Y2,f3_Y3,f3_Y4,f3_Y5,f3_Y6⟩ := cC7 Y3.out
    clear st hr f2_X0 f2_X1 f2_X2 f2_X3 f2_X4 f2_X5 f2_X6 f2_Y0 f2_Y1 f2_Y2 f2_Y3 f2_Y4 f2_Y5 f2_Y6
    go_wp2_with fail
    go_ret
    exact Wrote.of_bad A3.out ⟨(Aft.stop (qs := [tieP xd (-1),tieP yd (1)]) C3.out.1 C3.out.2).1.more (by omega) (by omega),(Aft.stop (qs := [tieP xd (-1),tieP yd (1)]) C3.out.1 C3.out.2).2⟩
  ·obtain ⟨x1,x2⟩ := C1.out.1.app C1.out.2 ha
   have C2 := hQ_ (And.intro x1 (x2.trans ho))
   clear x1 x2 ho ha
   have A2 := hQ_ (A1.out.step HS.out hr st)
   have X2 := hQ_ (A1.out.blk HS.out X1.out (.inl (.inr rfl)) st)
   have Y2 := hQ_ (A1.out.blk HS.out Y1.out (.inr rfl) st)
   obtain ⟨f2_X0,f2_X1,f2_X2,f2_X3,f2_X4,f2_X5,f2_X6⟩ := cC7 X2.out
   obtain ⟨f2_Y0,f2_Y1,f2_Y2,f2_Y3,f2_Y4,f2_Y5,f2_Y6⟩ := cC7 Y2.out
   clear st hr f1_X0 f1_X1 f1_X2 f1_X3 f1_X4 f1_X5 f1_X6 f1_Y0 f1_Y1 f1_Y2 f1_Y3 f1_Y4 f1_Y5 f1_Y6
   go_wp2_with fail
   go_ret
   exact Wrote.of_bad A2.out ⟨(Aft.stop (qs := [adoptP yd xi,tieP xd (-1),tieP yd (1)]) C2.out.1 C2.out.2).1.more (by omega) (by omega),(Aft.stop (qs := [adoptP yd xi,tieP xd (-1),tieP yd (1)]) C2.out.1 C2.out.2).2⟩
 ·obtain ⟨x1,x2⟩ := C0.out.1.app C0.out.2 ha
  have C1 := hQ_ (And.intro x1 (x2.trans ho))
  clear x1 x2 ho ha
  have A1 := hQ_ (A0.out.step HS.out hr st)
  have X1 := hQ_ (A0.out.blk HS.out X0.out (.inl (.inr rfl)) st)
  have Y1 := hQ_ (A0.out.blk HS.out Y0.out (.inr rfl) st)
  obtain ⟨f1_X0,f1_X1,f1_X2,f1_X3,f1_X4,f1_X5,f1_X6⟩ := cC7 X1.out
  obtain ⟨f1_Y0,f1_Y1,f1_Y2,f1_Y3,f1_Y4,f1_Y5,f1_Y6⟩ := cC7 Y1.out
  clear st hr f0_X0 f0_Y0
  go_wp2_with fail
  go_ret
  exact Wrote.of_bad A1.out ⟨(Aft.stop (qs := [hangP yd yn xi,adoptP yd xi,tieP xd (-1),tieP yd (1)]) C1.out.1 C1.out.2).1.more (by omega) (by omega),(Aft.stop (qs := [hangP yd yn xi,adoptP yd xi,tieP xd (-1),tieP yd (1)]) C1.out.1 C1.out.2).2⟩
theorem move_near (hW0 : Wk Rep) (xd xi xk xl xz xp : Int) (xn : ByteArray) (yd yi yk yl yz yp : Int) (yn : ByteArray) (hr : Rep w v s S D) (hl : Lim s) (h2 : s.rd.length ≤ 19900) (h3 : s.rg.length ≤ 990) (hd0 : 0 ≤ xd) (hd1 : xd ≤ 4294967295) (hi0 : 0 ≤ xi) (hi1 : xi ≤ 4294967295) (hn0 : xn.size ≤ 100000) (jd0 : 0 ≤ yd) (jd1 : yd ≤ 4294967295) (ji0 : 0 ≤ yi) (ji1 : yi ≤ 4294967295) (jn0 : yn.size ≤ 100000) (hk : xk = 2 → xd = yd) :
 Calls Tryz.prog 114 #[v,.agg #[.int .u32 xd,.string xn,.int .u32 xi,.int .u8 xk,.int .u32 xl,.int .u32 xz,.int .u32 xp],.agg #[.int .u32 yd,.string yn,.int .u32 yi,.int .u8 yk,.int .u32 yl,.int .u32 yz,.int .u32 yp]] w (Wrote Rep v s [unhangP xd xn,hangP yd yn xi] 3 0 S D w) := by
 obtain ⟨W,hW⟩ : ∃ W,(w.alloc (.cells #[.int .u32 xd,.string xn,.int .u32 xi,.int .u8 xk,.int .u32 xl,.int .u32 xz,.int .u32 xp] 150)).alloc (.cells #[.int .u32 yd,.string yn,.int .u32 yi,.int .u8 yk,.int .u32 yl,.int .u32 yz,.int .u32 yp] 150) = W := ⟨_,rfl⟩
 have hb1 := bN_ w (.cells #[.int .u32 xd,.string xn,.int .u32 xi,.int .u8 xk,.int .u32 xl,.int .u32 xz,.int .u32 xp] 150)
 have A0 : Hid (At Rep w S D (fun b => (False ∨ b = w.heap.size) ∨ b = w.heap.size + 1) W v s S D) := hQ_ (by
  rw [← hW]
  exact ((At.start hr).own hW0.stays hb1 (Nat.le_refl w.heap.size) (by simp)).own hW0.stays (bW_) (by simp) (by simp))
 have X0 := hQ_ (show Blk W w.heap.size #[.int .u32 xd,.string xn,.int .u32 xi,.int .u8 xk,.int .u32 xl,.int .u32 xz,.int .u32 xp] 150 from hW ▸ (Blk.new_ w _ _).alloc _)
 have Y0 : Hid (Blk W (w.heap.size + 1) #[.int .u32 yd,.string yn,.int .u32 yi,.int .u8 yk,.int .u32 yl,.int .u32 yz,.int .u32 yp] 150) := hQ_ (by
  rw [← hW]
  have := Blk.new_ (w.alloc (.cells #[.int .u32 xd,.string xn,.int .u32 xi,.int .u8 xk,.int .u32 xl,.int .u32 xz,.int .u32 xp] 150)) #[.int .u32 yd,.string yn,.int .u32 yi,.int .u8 yk,.int .u32 yl,.int .u32 yz,.int .u32 yp] 150
  simpa using this)
 have HW := hQ_ hW
 have HS := hQ_ hW0.stays
 have HWK := hQ_ hW0
 have HL := hQ_ hl
 have C0 := hQ_ (aft0 s)
 have f0_X0 := cC7 X0.out
 have f0_Y0 := cC7 Y0.out
 clear hr hl hW hb1
 by_cases hk2 : xk = 2
 ·have e1 : (xk != 2) = false := by simpa using hk2
  have e2 : (xd == yd) = true := by simpa using hk hk2
  clear hk hk2
  go_enter Tryz.func114,Tryz.ntmps114
  go_wp2_with fail
  rw [HW.out]
  go_wp2_with fail
  refine (unhang_w HWK.out xd xn A0.out.rep (lim_aft C0.out.1 HL.out (by omega) (by omega)) (by omega) (by omega) (by omega)).mono ?_
  intro e w1 hh
  rcases Wrote.split hh with ⟨s1,S1,D1,rfl,ho,hr,st,ha⟩ | ⟨s1,S1,D1,rfl,ho,hr,st,ha⟩
  ·obtain ⟨x1,x2⟩ := C0.out.1.app C0.out.2 ha
   have C1 := hQ_ (And.intro x1 (x2.trans ho))
   clear x1 x2 ho ha
   have A1 := hQ_ (A0.out.step HS.out hr st)
   have X1 := hQ_ (A0.out.blk HS.out X0.out (.inl (.inr rfl)) st)
   have Y1 := hQ_ (A0.out.blk HS.out Y0.out (.inr rfl) st)
   obtain ⟨f1_X0,f1_X1,f1_X2,f1_X3,f1_X4,f1_X5,f1_X6⟩ := cC7 X1.out
   obtain ⟨f1_Y0,f1_Y1,f1_Y2,f1_Y3,f1_Y4,f1_Y5,f1_Y6⟩ := cC7 Y1.out
   clear st hr f0_X0 f0_Y0
   go_wp2_with fail
   refine (hang_w HWK.out yd yn xi A1.out.rep (lim_aft C1.out.1 HL.out (by omega) (by omega)) (by omega) (by omega) (by omega) (by omega) (by omega)).mono ?_
   intro e w2 hh
   rcases Wrote.split hh with ⟨s2,S2,D2,rfl,ho,hr,st,ha⟩ | ⟨s2,S2,D2,rfl,ho,hr,st,ha⟩
   ·obtain ⟨x1,x2⟩ := C1.out.1.app C1.out.2 ha
    have C2 := hQ_ (And.intro x1 (x2.trans ho))
    clear x1 x2 ho ha
    have A2 := hQ_ (A1.out.step HS.out hr st)
    have X2 := hQ_ (A1.out.blk HS.out X1.out (.inl (.inr rfl)) st)
    have Y2 := hQ_ (A1.out.blk HS.out Y1.out (.inr rfl) st)
    obtain ⟨f2_X0,f2_X1,f2_X2,f2_X3,f2_X4,f2_X5,f2_X6⟩ := cC7 X2.out
    obtain ⟨f2_Y0,f2_Y1,f2_Y2,f2_Y3,f2_Y4,f2_Y5,f2_Y6⟩ := cC7 Y2.out
    clear st hr f1_X0 f1_X1 f1_X2 f1_X3 f1_X4 f1_X5 f1_X6 f1_Y0 f1_Y1 f1_Y2 f1_Y3 f1_Y4 f1_Y5 f1_Y6
    go_wp2_with fail
    go_ret
    exact Wrote.of_ok A2.out ⟨C2.out.1.more (by omega) (by omega),C2.out.2⟩
   ·obtain ⟨x1,x2⟩ := C1.out.1.app C1.out.2 ha
    have C2 := hQ_ (And.intro x1 (x2.trans ho))
    clear x1 x2 ho ha
    have A2 := hQ_ (A1.out.step HS.out hr st)
    have X2 := hQ_ (A1.out.blk HS.out X1.out (.inl (.inr rfl)) st)
    have Y2 := hQ_ (A1.out.blk HS.out Y1.out (.inr rfl) st)
    obtain ⟨f2_X0,f2_X1,f2_X2,f2_X3,f2_X4,f2_X5,f2_X6⟩ := cC7 X2.out
    obtain ⟨f2_Y0,f2_Y1,f2_Y2,f2_Y3,f2_Y4,f2_Y5,f2_Y6⟩ := cC7 Y2.out
    clear st hr f1_X0 f1_X1 f1_X2 f1_X3 f1_X4 f1_X5 f1_X6 f1_Y0 f1_Y1 f1_Y2 f1_Y3 f1_Y4 f1_Y5 f1_Y6
    go_wp2_with fail
    go_ret
    exact Wrote.of_bad A2.out ⟨(Aft.stop (qs := []) C2.out.1 C2.out.2).1.more (by omega) (by omega),(Aft.stop (qs := []) C2.out.1 C2.out.2).2⟩
  ·obtain ⟨x1,x2⟩ := C0.out.1.app C0.out.2 ha
   have C1 := hQ_ (And.intro x1 (x2.trans ho))
   clear x1 x2 ho ha
   have A1 := hQ_ (A0.out.step HS.out hr st)
   have X1 := hQ_ (A0.out.blk HS.out X0.out (.inl (.inr rfl)) st)
   have Y1 := hQ_ (A0.out.blk HS.out Y0.out (.inr rfl) st)
   obtain ⟨f1_X0,f1_X1,f1_X2,f1_X3,f1_X4,f1_X5,f1_X6⟩ := cC7 X1.out
   obtain ⟨f1_Y0,f1_Y1,f1_Y2,f1_Y3,f1_Y4,f1_Y5,f1_Y6⟩ := cC7 Y1.out
   clear st hr f0_X0 f0_Y0
   go_wp2_with fail
   go_ret
   exact Wrote.of_bad A1.out ⟨(Aft.stop (qs := [hangP yd yn xi]) C1.out.1 C1.out.2).1.more (by omega) (by omega),(Aft.stop (qs := [hangP yd yn xi]) C1.out.1 C1.out.2).2⟩
 ·have e1 : (xk != 2) = true := by simpa using hk2
  clear hk hk2
  go_enter Tryz.func114,Tryz.ntmps114
  go_wp2_with fail
  rw [HW.out]
  go_wp2_with fail
  refine (unhang_w HWK.out xd xn A0.out.rep (lim_aft C0.out.1 HL.out (by omega) (by omega)) (by omega) (by omega) (by omega)).mono ?_
  intro e w3 hh
  rcases Wrote.split hh with ⟨s3,S3,D3,rfl,ho,hr,st,ha⟩ | ⟨s3,S3,D3,rfl,ho,hr,st,ha⟩
  ·obtain ⟨x1,x2⟩ := C0.out.1.app C0.out.2 ha
   have C3 := hQ_ (And.intro x1 (x2.trans ho))
   clear x1 x2 ho ha
   have A3 := hQ_ (A0.out.step HS.out hr st)
   have X3 := hQ_ (A0.out.blk HS.out X0.out (.inl (.inr rfl)) st)
   have Y3 := hQ_ (A0.out.blk HS.out Y0.out (.inr rfl) st)
   obtain ⟨f3_X0,f3_X1,f3_X2,f3_X3,f3_X4,f3_X5,f3_X6⟩ := cC7 X3.out
   obtain ⟨f3_Y0,f3_Y1,f3_Y2,f3_Y3,f3_Y4,f3_Y5,f3_Y6⟩ := cC7 Y3.out
   clear st hr f0_X0 f0_Y0
   go_wp2_with fail
   refine (hang_w HWK.out yd yn xi A3.out.rep (lim_aft C3.out.1 HL.out (by omega) (by omega)) (by omega) (by omega) (by omega) (by omega) (by omega)).mono ?_
   intro e w4 hh
   rcases Wrote.split hh with ⟨s4,S4,D4,rfl,ho,hr,st,ha⟩ | ⟨s4,S4,D4,rfl,ho,hr,st,ha⟩
   ·obtain ⟨x1,x2⟩ := C3.out.1.app C3.out.2 ha
    have C4 := hQ_ (And.intro x1 (x2.trans ho))
    clear x1 x2 ho ha
    have A4 := hQ_ (A3.out.step HS.out hr st)
    have X4 := hQ_ (A3.out.blk HS.out X3.out (.inl (.inr rfl)) st)
    have Y4 := hQ_ (A3.out.blk HS.out Y3.out (.inr rfl) st)
    obtain ⟨f4_X0,f4_X1,f4_X2,f4_X3,f4_X4,f4_X5,f4_X6⟩ := cC7 X4.out
    obtain ⟨f4_Y0,f4_Y1,f4_Y2,f4_Y3,f4_Y4,f4_Y5,f4_Y6⟩ := cC7 Y4.out
    clear st hr f3_X0 f3_X1 f3_X2 f3_X3 f3_X4 f3_X5 f3_X6 f3_Y0 f3_Y1 f3_Y2 f3_Y3 f3_Y4 f3_Y5 f3_Y6
    go_wp2_with fail
    go_ret
    exact Wrote.of_ok A4.out ⟨C4.out.1.more (by omega) (by omega),C4.out.2⟩
   ·obtain ⟨x1,x2⟩ := C3.out.1.app C3.out.2 ha
    have C4 := hQ_ (And.intro x1 (x2.trans ho))
    clear x1 x2 ho ha
    have A4 := hQ_ (A3.out.step HS.out hr st)
    have X4 := hQ_ (A3.out.blk HS.out X3.out (.inl (.inr rfl)) st)
    have Y4 := hQ_ (A3.out.blk HS.out Y3.out (.inr rfl) st)
    obtain ⟨f4_X0,f4_X1,f4_X2,f4_X3,f4_X4,f4_X5,f4_X6⟩ := cC7 X4.out
    obtain ⟨f4_Y0,f4_Y1,f4_Y2,f4_Y3,f4_Y4,f4_Y5,f4_Y6⟩ := cC7 Y4.out
    clear st hr f3_X0 f3_X1 f3_X2 f3_X3 f3_X4 f3_X5 f3_X6 f3_Y0 f3_Y1 f3_Y2 f3_Y3 f3_Y4 f3_Y5 f3_Y6
    go_wp2_with fail
    go_ret
    exact Wrote.of_bad A4.out ⟨(Aft.stop (qs := []) C4.out.1 C4.out.2).1.more (by omega) (by omega),(Aft.stop (qs := []) C4.out.1 C4.out.2).2⟩
  ·obtain ⟨x1,x2⟩ := C0.out.1.app C0.out.2 ha
   have C3 := hQ_ (And.intro x1 (x2.trans ho))
   clear x1 x2 ho ha
   have A3 := hQ_ (A0.out.step HS.out hr st)
   have X3 := hQ_ (A0.out.blk HS.out X0.out (.inl (.inr rfl)) st)
   have Y3 := hQ_ (A0.out.blk HS.out Y0.out (.inr rfl) st)
   obtain ⟨f3_X0,f3_X1,f3_X2,f3_X3,f3_X4,f3_X5,f3_X6⟩ := cC7 X3.out
   obtain ⟨f3_Y0,f3_Y1,f3_Y2,f3_Y3,f3_Y4,f3_Y5,f3_Y6⟩ := cC7 Y3.out
   clear st hr f0_X0 f0_Y0
   go_wp2_with fail
   go_ret
   exact Wrote.of_bad A3.out ⟨(Aft.stop (qs := [hangP yd yn xi]) C3.out.1 C3.out.2).1.more (by omega) (by omega),(Aft.stop (qs := [hangP yd yn xi]) C3.out.1 C3.out.2).2⟩
end Go.Proofs.YtogdjbhjgbnicaaGreatDoor.DirsKb