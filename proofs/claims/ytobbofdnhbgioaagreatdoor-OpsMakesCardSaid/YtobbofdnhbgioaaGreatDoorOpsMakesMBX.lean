import Derived.Test.YtobbofdnhbgioaaGreatDoorOpsMakesMAP
import Derived.Test.YtobbofdnhbgioaaGreatDoorOpsMakesMBW
import Derived.Test.YtobbofdnhbgioaaGreatDoorSq
import Derived.Test.YtobbofdnhbgioaaGreatDoorOpsMakesMBU
set_option linter.unusedVariables false
set_option linter.unusedSimpArgs false
namespace Go.Proofs.YtobbofdnhbgioaaGreatDoor.DirsX
open FileM Byte PackM KeysM TreeM ViewM ViewKm NodeM NamesM WalkM WalkF WalkKm DirsV
def gk (L : List Pr) (k : ByteArray) : Option ByteArray := (getL k L).map (·.value)
abbrev Gf := ByteArray → Option ByteArray
def setG (g : Gf) (p : Pr) : Gf := fun k => if k = p.key then (if p.gone = true then none else some p.value) else g k
theorem get_iff {L : List Pr} (hr : Rise L) {k : ByteArray} {p : Pr} : getL k L = some p ↔ p ∈ L ∧ p.key = k :=
 ⟨fun h => ⟨List.mem_of_find?_eq_some h,by simpa using List.find?_some h⟩,fun ⟨h1,h2⟩ => by rw [← h2]; exact get_mem hr h1⟩
theorem gk_done {L : List Pr} (hr : Rise L) (p : Pr) : gk (doneW L p) = setG (gk L) p := by
 funext k
 unfold gk setG
 have hr2 := rise_done hr p
 by_cases hk : k = p.key
 ·rw [if_pos hk]
  by_cases hg : p.gone = true
  ·rw [if_pos hg,get_none' (fun q hq e => by
    rcases mem_done.1 hq with ⟨h1,_⟩ | ⟨_,h2⟩
    ·rw [hg] at h1; cases h1
    ·exact h2 (by rw [e,hk]))]
   rfl
  ·rw [if_neg hg,(get_iff hr2 (p := ⟨p.key,p.value,false⟩)).2 ⟨mem_done.2 (.inl ⟨by simpa using hg,rfl⟩),hk.symm⟩]
   rfl
 ·rw [if_neg hk]
  cases hq : getL k L with
  | none =>
    rw [get_none' (fun q hq2 e => by
     rcases mem_done.1 hq2 with ⟨_,h1⟩ | ⟨h1,_⟩
     ·rw [h1] at e; exact hk e.symm
     ·exact get_none hq q h1 e)]
    show _ = Option.map _ (getL k L); rw [hq]
  | some q =>
    have h1 := (get_iff hr).1 hq
    rw [(get_iff hr2 (p := q)).2 ⟨mem_done.2 (.inr ⟨h1.1,fun e => hk (by rw [← h1.2,e])⟩),h1.2⟩]
    show _ = Option.map _ (getL k L); rw [hq]
end Go.Proofs.YtobbofdnhbgioaaGreatDoor.DirsX
namespace Go.Proofs.YtobbofdnhbgioaaGreatDoor.FileN
open Byte PackM KeysM TreeM ViewKm WalkM WalkF WalkKm DirsV DirsX FileM FileV
open NodeM hiding gk
open ViewM hiding putP
theorem drop_get (l : List Int) (n i : Nat) : (l.drop n).getD i 0 = l.getD (n + i) 0 := by
 rw [List.getD_eq_getElem?_getD,List.getElem?_drop,List.getD_eq_getElem?_getD]
section
variable {L : List Pr} {ino : Int} {φ : Nat → Int}
end
end Go.Proofs.YtobbofdnhbgioaaGreatDoor.FileN
set_option maxHeartbeats 16000000
set_option maxRecDepth 100000
namespace Go.Proofs.YtobbofdnhbgioaaGreatDoor.FileKe
open Go.RowKit
open Byte PackM KeysM KeysL TreeR ViewM ViewKm NodeM NodeL NodeK WalkM WalkF WalkKm DirsV FileM FileV FileN Lst Chg TreeL ViewL WalkL WalkV Vat DirsK DirsKa Cpy FileKa FileKb FileKd
open TreeM hiding cutL
open Own hiding keeps
variable {Rep : RepT}
def V64 (L : List Pr) (ino : Int) : Prop := ∀ q,0 ≤ q → q ≤ 65535 → (valL ((getL (kD ino q) L).map (·.value))).length ≤ 64
theorem v64_done {L : List Pr} (hr : Rise L) {ino : Int} (h : V64 L ino) {p : Pr} (hp : p.value.size ≤ 64) : V64 (doneW L p) ino := fun q q0 q1 => by
 have e : (getL (kD ino q) (doneW L p)).map (·.value) = DirsX.setG (DirsX.gk L) p (kD ino q) := congrFun (DirsX.gk_done hr p) _
 rw [e]
 unfold DirsX.setG
 split
 ·split
  ·exact Nat.zero_le _
  ·show (txt p.value).length ≤ 64
   rw [txt_len]; exact hp
 ·exact h q q0 q1
theorem v64_write {s : Vs} (ho : s.Ok) {ino : Int} (h : V64 s.shown ino) {p : Pr} (hp : p.value.size ≤ 64) : V64 (s.write p).shown ino := by
 unfold Vs.write
 split
 ·exact h
 ·show V64 (shownL s.base (writeW s.base s.wr p)) ino
  rw [shown_write ho.base ho.wr]
  exact v64_done (rise_shown ho.base _) h hp
theorem go_one (s : Vs) (p : Wrt) : (goW s [p]).1 = s.write (p s.shown) := by
 cases hf : fullW s.wr (p s.shown) with
 | true => rw [goW_full hf,write_room hf]
 | false => rw [goW_room hf]; rfl
theorem aft_one {s s' : Vs} {p q : Wrt} {k m : Nat} (e : p s.shown = q s.shown) (h : Aft s s' [p] k m) : Aft s s' [q] k m := by
 have : goW s [p] = goW s [q] := by unfold goW; rw [e]
 exact ⟨by rw [← this]; exact h.sm,h.rd,h.rg⟩
theorem one_same {s : Vs} {p q : Wrt} (e : p s.shown = q s.shown) : (goW s [p]).2 = (goW s [q]).2 := by rw [one_ok,one_ok,e]
theorem bs_stp {w w' : World} {S : Nat → Prop} {A : Option Addr} {n : Nat} {xs : List Int} (h : Bs w A n xs) (k : Chg S w w') (hA : ∀ b o,A = some ⟨b,o,none⟩ → ¬ S b) : Bs w' A n xs := by
 refine ⟨h.1,h.2.1,fun i hi => ?_⟩
 obtain ⟨b,o,e,hlt,hc⟩ := h.2.2 i hi
 exact ⟨b,o,e,Nat.lt_of_lt_of_le hlt k.size,k.cell (p := ⟨b,o + i,none⟩) hc (hA b o e)⟩
theorem bs_back {w : World} {b o n : Nat} {xs : List Int} (h : Bs w (some ⟨b,o,none⟩) n xs) (k : Nat) (hk : k ≤ n) : Bs w (some ⟨b,o + k,none⟩) (n - k) (xs.drop k) := by
 refine ⟨by rw [List.length_drop,h.1],fun x hx => h.2.1 x (List.mem_of_mem_drop hx),fun i hi => ?_⟩
 obtain ⟨b',o',e,hlt,hc⟩ := h.2.2 (k + i) (by omega)
 injection e with e
 injection e with e1 e2
 subst e1 e2
 exact ⟨b,o + k,rfl,hlt,by rw [Nat.add_assoc,hc,drop_get]⟩
def sumP (P : List (Int × Int × Int)) : Nat := (P.map fun p => p.2.2.toNat).sum
theorem sum_cuts : ∀ (f : Nat) {a n : Int},0 ≤ a → n ≤ f → sumP (cuts f a n) = n.toNat
 | 0,a,n,_,h => by rw [show n.toNat = 0 by omega]; rfl
 | f + 1,a,n,ha,h => by
   unfold cuts
   split
   ·rw [show n.toNat = 0 by omega]; rfl
   ·have := sum_cuts f (a := a + min n (64 - a % 64)) (n := n - min n (64 - a % 64)) (by omega) (by omega)
    unfold sumP at this ⊢
    rw [List.map_cons,List.sum_cons,this]
    dsimp only
    omega
theorem sum_cut {a n : Int} (a0 : 0 ≤ a) (h : a + n ≤ 4096) : sumP (cutL a n) = n.toNat := by
 unfold cutL
 split
 ·rw [show n.toNat = 0 by omega]; rfl
 ·exact sum_cuts _ a0 (by omega)
theorem sum_drop {P : List (Int × Int × Int)} {k : Nat} {p : Int × Int × Int} (h : P[k]? = some p) : sumP (P.drop k) = p.2.2.toNat + sumP (P.drop (k + 1)) := by
 obtain ⟨hk,he⟩ := List.getElem?_eq_some_iff.1 h
 rw [List.drop_eq_getElem_cons hk,he]
 unfold sumP
 rw [List.map_cons,List.sum_cons]
theorem wrPs_next {ino : Int} {xs : List Int} {P : List (Int × Int × Int)} {k : Nat} {p : Int × Int × Int} (h : P[k]? = some p) : wrPs ino xs (P.drop k) = wrP ino p (xs.take p.2.2.toNat) :: wrPs ino (xs.drop p.2.2.toNat) (P.drop (k + 1)) := by
 obtain ⟨hk,he⟩ := List.getElem?_eq_some_iff.1 h
 rw [List.drop_eq_getElem_cons hk,he]
 rfl
structure WrI (s s' : Vs) (ino : Int) (ys xs : List Int) (P Q : List (Int × Int × Int)) (don : List Wrt) : Prop where
 aft : Aft s s' don 0 0
 ok : (goW s don).2 = true
 all : don ++ wrPs ino ys Q = wrPs ino xs P
 v64 : V64 s'.shown ino
 len : ys.length = sumP Q
theorem WrI.lim {s s' : Vs} {ino : Int} {ys xs : List Int} {P Q : List (Int × Int × Int)} {don : List Wrt} (h : WrI s s' ino ys xs P Q don) (hl : Lim s) : Lim s' := lim_aft h.aft hl (by have := hl.rd; omega) (by have := hl.rg; omega)
theorem put_small (ino which : Int) (b : List Int) (L : List Pr) (h : b.length ≤ 64) : (putP ino which b L).value.size ≤ 64 := by
 show (str (cut0 b)).size ≤ 64
 rw [str_size]
 have := cut0_len b
 omega
theorem WrI.next {s s1 s2 : Vs} {ino : Int} {ys xs : List Int} {P : List (Int × Int × Int)} {k : Nat} {don : List Wrt} {p : Int × Int × Int} {b : List Int} (h : WrI s s1 ino ys xs P (P.drop k) don) (ho : s1.Ok) (hp : P[k]? = some p) (hb : setB (getB s1.shown ino p.1) (ys.take p.2.2.toNat) p.2.1.toNat = b) (hlen : b.length ≤ 64) (ha : Aft s1 s2 [putP ino p.1 b] 0 0) (hg : (goW s1 [putP ino p.1 b]).2 = true) :
 ∃ don',WrI s s2 ino (ys.drop p.2.2.toNat) xs P (P.drop (k + 1)) don' := by
 have e : putP ino p.1 b s1.shown = wrP ino p (ys.take p.2.2.toNat) s1.shown := by unfold wrP; rw [hb]
 have h1 := h.aft.app h.ok (aft_one e ha)
 refine ⟨don ++ [wrP ino p (ys.take p.2.2.toNat)],h1.1,by rw [h1.2,← one_same e]; exact hg,?_,?_,?_⟩
 ·rw [List.append_assoc,← h.all,wrPs_next hp]; rfl
 ·rw [ha.sm.shown,go_one]
  exact v64_write ho h.v64 (put_small _ _ _ _ hlen)
 ·rw [List.length_drop,h.len,sum_drop hp]; omega
theorem WrI.stop {s s1 s2 : Vs} {ino : Int} {ys xs : List Int} {P : List (Int × Int × Int)} {k : Nat} {don : List Wrt} {p : Int × Int × Int} {b : List Int} (h : WrI s s1 ino ys xs P (P.drop k) don) (hp : P[k]? = some p) (hb : setB (getB s1.shown ino p.1) (ys.take p.2.2.toNat) p.2.1.toNat = b) (ha : Aft s1 s2 [putP ino p.1 b] 0 0) (hg : (goW s1 [putP ino p.1 b]).2 = false) :
 Aft s s2 (wrPs ino xs P) 0 0 ∧ (goW s (wrPs ino xs P)).2 = false := by
 have e : putP ino p.1 b s1.shown = wrP ino p (ys.take p.2.2.toNat) s1.shown := by unfold wrP; rw [hb]
 have h1 := h.aft.app h.ok (aft_one e ha)
 have h2 : (goW s (don ++ [wrP ino p (ys.take p.2.2.toNat)])).2 = false := by rw [h1.2,← one_same e]; exact hg
 have h3 := h1.1.stop (qs := wrPs ino (ys.drop p.2.2.toNat) (P.drop (k + 1))) h2
 have e4 : don ++ [wrP ino p (ys.take p.2.2.toNat)] ++ wrPs ino (ys.drop p.2.2.toNat) (P.drop (k + 1)) = wrPs ino xs P := by
  rw [← h.all,wrPs_next hp,List.append_assoc]; rfl
 rw [e4] at h3
 exact h3
theorem WrI.done {s s1 : Vs} {ino : Int} {ys xs : List Int} {P : List (Int × Int × Int)} {k : Nat} {don : List Wrt} (h : WrI s s1 ino ys xs P (P.drop k) don) (hk : P.length ≤ k) : Aft s s1 (wrPs ino xs P) 0 0 ∧ (goW s (wrPs ino xs P)).2 = true := by
 have e : don = wrPs ino xs P := by
  have := h.all
  rw [List.drop_eq_nil_of_le hk] at this
  simpa [wrPs] using this
 rw [← e]
 exact ⟨h.aft,h.ok⟩
theorem slice64l (w : World) (g f : Nat) (h : f ≤ 63) : (Instr.sliceAt 184 (.pointer (some ⟨g,0,none⟩)) (some (.int .i64 (f : Int))) none none).run Tryz.prog w = .ok (.slice (some ⟨g,f,none⟩) (64 - f) (64 - f)) w := by
 have ht : Tryz.prog.underlying 184 = some (.array (Tryz.prog.arrayLen 184) (Tryz.prog.elem 184)) := by kernel_rfl
 have e64 : Tryz.prog.arrayLen 184 = 64 := by kernel_rfl
 have ee : Tryz.prog.elem 184 = 5 := by kernel_rfl
 rw [run_sliceAt_array_l w 184 ⟨g,0,none⟩ ht .i64 (f : Int) (by omega) (by rw [e64]; omega),ee,Tryz.sizeOf5,e64]
 rw [Int.toNat_natCast]
 unfold slicedAt
 show Result.ok (Value.slice (some (if 64 = f then (⟨g,0,none⟩ : Addr) else (⟨g,0,none⟩ : Addr).add (f * 1))) (64 - f) (64 - f)) w = _
 rw [if_neg (by omega),Nat.mul_one]
 simp [Addr.add]
 exact fun h => h.symm
theorem slice64a (w : World) (g : Nat) : (Instr.sliceAt 184 (.pointer (some ⟨g,0,none⟩)) none none none).run Tryz.prog w = .ok (.slice (some ⟨g,0,none⟩) 64 64) w := by
 have ht : Tryz.prog.underlying 184 = some (.array (Tryz.prog.arrayLen 184) (Tryz.prog.elem 184)) := by kernel_rfl
 have e64 : Tryz.prog.arrayLen 184 = 64 := by kernel_rfl
 have ee : Tryz.prog.elem 184 = 5 := by kernel_rfl
 rw [run_sliceAt_array_all w 184 ⟨g,0,none⟩ ht,ee,Tryz.sizeOf5,e64]
 rfl
theorem slice_bh (w : World) (A : Option Addr) (m d q : Nat) (h : q ≤ d) : (Instr.sliceAt 39 (.slice A m d) none (some (.int .i64 (q : Int))) none).run Tryz.prog w = .ok (.slice A q d) w := by
 have ht : Tryz.prog.underlying 39 = some (.slice (Tryz.prog.elem 39)) := by kernel_rfl
 have ee : Tryz.prog.elem 39 = 5 := by kernel_rfl
 rw [run_sliceAt_slice w 39 _ _ _ _ ht,run_slice_h w 39 A m d ht .i64 (q : Int) (by omega) (by omega),ee,Tryz.sizeOf5,Int.toNat_natCast]
 cases A <;> simp [sliced,Addr.add]
theorem slice_bl (w : World) (b o m d q : Nat) (h : q ≤ m) (h2 : m ≤ d) : ∃ A,(Instr.sliceAt 39 (.slice (some ⟨b,o,none⟩) m d) (some (.int .i64 (q : Int))) none none).run Tryz.prog w = .ok (.slice A (m - q) (d - q)) w ∧ (A = some ⟨b,o + q,none⟩ ∨ (m = q ∧ A = some ⟨b,o,none⟩)) := by
 have ht : Tryz.prog.underlying 39 = some (.slice (Tryz.prog.elem 39)) := by kernel_rfl
 have ee : Tryz.prog.elem 39 = 5 := by kernel_rfl
 rw [run_sliceAt_slice w 39 _ _ _ _ ht,run_slice_l w 39 _ m d ht .i64 (q : Int) (by omega) (by omega),ee,Tryz.sizeOf5,Int.toNat_natCast]
 by_cases hd : d = q
 ·exact ⟨some ⟨b,o,none⟩,by simp [sliced,hd],.inr ⟨by omega,rfl⟩⟩
 ·refine ⟨some ⟨b,o + q,none⟩,?_,.inl rfl⟩
  simp [sliced,Addr.add,hd]
  try omega
theorem blk_bs {w : World} {g : Nat} {l : List Int} {T : TypeId} (h : Blk w g (u8A l) T) (hb : ∀ x ∈ l,0 ≤ x ∧ x ≤ 255) : Bs w (some ⟨g,0,none⟩) l.length l := by
 refine ⟨rfl,hb,fun k hk => ⟨g,0,rfl,h.lt,?_⟩⟩
 rw [Nat.zero_add,h.cell k]
 unfold u8A
 rw [List.getElem?_toArray,List.getElem?_map,List.getElem?_eq_getElem hk,List.getD_eq_getElem?_getD,List.getElem?_eq_getElem hk]
 rfl
theorem getB_bd (L : List Pr) (ino q : Int) : ∀ x ∈ getB L ino q,0 ≤ x ∧ x ≤ 255 := fun x hx => by
 have h1 : ∀ x ∈ valL ((getL (kD ino q) L).map (·.value)),0 ≤ x ∧ x ≤ 255 := by
  cases (getL (kD ino q) L).map (·.value) with
  | none => intro x hx; cases hx
  | some t => exact txt_bd t
 unfold getB pad at hx
 rcases List.mem_append.1 (List.mem_of_mem_take hx) with h | h
 ·exact h1 x h
 ·rw [List.eq_of_mem_replicate h]; exact ⟨by decide,by decide⟩
theorem setb_bd {l xs : List Int} {f : Nat} (h : ∀ x ∈ l,0 ≤ x ∧ x ≤ 255) (h2 : ∀ x ∈ xs,0 ≤ x ∧ x ≤ 255) : ∀ x ∈ setB l xs f,0 ≤ x ∧ x ≤ 255 := fun x hx => by
 unfold setB at hx
 rcases List.mem_append.1 hx with h3 | h3
 ·exact h x (List.mem_of_mem_take h3)
 ·rcases List.mem_append.1 h3 with h4 | h4
  ·exact h2 x h4
  ·exact h x (List.mem_of_mem_drop h4)
theorem off_of {w w1 : World} {S D M S' D' : Nat → Prop} {v : Value} {s1 : Vs} {A B : Option Addr} (p : At Rep w S D M w1 v s1 S' D') (hA : ∀ b o,A = some ⟨b,o,none⟩ → ¬ S b ∧ b < w.heap.size) (hB : ∀ b o,B = some ⟨b,o,none⟩ → ∃ o',A = some ⟨b,o',none⟩) : ∀ b o,B = some ⟨b,o,none⟩ → ¬ S' b ∧ b < w.heap.size := fun b o e => by
 obtain ⟨o',e'⟩ := hB b o e
 have h := hA b o' e'
 refine ⟨fun hs => ?_,h.2⟩
 rcases p.st.own b hs with q | q
 ·exact h.1 q
 ·omega
theorem so_off {α : Type} {e : Enc α} {T : TypeId} {w : World} {base n g : Nat} {u : Value} {L : List α} (h : So e T w base u n L) (hg : w.heap.size ≤ g) : u.ownBlock = none ∨ u.ownBlock ≠ some g := by
 cases hv : u.ownBlock with
 | none => exact .inl rfl
 | some k => exact .inr (fun e => by injection e with e; have := (h.lt hv).2; omega)
theorem bs_grown {w w' : World} {A : Option Addr} {n g : Nat} {xs : List Int} (h : Bs w A n xs) (k : w.grownBy w' (some g)) (hA : ∀ b o,A = some ⟨b,o,none⟩ → b ≠ g) : Bs w' A n xs :=
 bs_stp (S := fun b => b = g) h (Chg.of_grown k (fun i e => .inl (by injection e with e; exact e.symm))) hA
theorem write_calls (hW : Wk Rep) (hK : LookOk Rep) (hT : SetOk Rep) {w : World} {v : Value} {s : Vs} {S D : Nat → Prop} (ino a : Int) {A : Option Addr} {n c : Nat} {xs : List Int} (hr : Rep w v s S D) (hl : Lim s) (h0 : 0 ≤ ino) (h1 : ino ≤ 4294967295) (a0 : 0 ≤ a) (an : a + n ≤ 4096) (hx : Bs w A n xs) (hc : n ≤ c) (hbig : c ≤ 9223372036854775807) (hA : ∀ b o,A = some ⟨b,o,none⟩ → ¬ S b ∧ b < w.heap.size) (hv : V64 s.shown ino) :
 Calls Tryz.prog 108 #[v,.int .u32 ino,.int .i64 a,.slice A n c] w (Wrote Rep v s (wrPs ino xs (cutL a n)) 0 0 S D w) := by
 have HG := hQ_ (fun (q : Int) (w1 : World) (s1 : Vs) (S1 D1 : Nat → Prop) (hr1 : Rep w1 v s1 S1 D1) (hl1 : Lim s1) (hv1 : V64 s1.shown ino) (b0 : 0 ≤ q) (b1 : q ≤ 63) => get_calls hW hK ino q hr1 hl1 h0 h1 b0 (by omega) (hv1 q b0 (by omega)))
 have HPT := hQ_ (fun (q : Int) (w1 : World) (s1 : Vs) (S1 D1 : Nat → Prop) (g : Nat) (ys : List Int) (hr1 : Rep w1 v s1 S1 D1) (hl1 : Lim s1) (b0 : 0 ≤ q) (b1 : q ≤ 63) (hx : Bs w1 (some ⟨g,0,none⟩) 64 ys) => put_calls (c := 64) hW hT ino q hr1 hl1 h0 h1 b0 (by omega) hx (Nat.le_refl _) (by omega) (by omega))
 have HC := hQ_ (cut_ok a n w (by omega) (by omega) (by omega) (by omega))
 unfold CutE at HC
 have HS := hQ_ hW.stays
 have A0 := hQ_ (At.start hr)
 have HPO : Hid (∀ p ∈ cutL a n,PcOk p) := hQ_ cutL_ok
 have HI0 : Hid (WrI s s ino xs xs (cutL a n) ((cutL a n).drop 0) []) := hQ_ ⟨Aft.nil (Sm.refl s) (Nat.le_refl _) (Nat.le_refl _),rfl,rfl,hv,by rw [List.drop_zero,sum_cut a0 an,hx.1]; omega⟩
 have HLI := hQ_ hl
 have HX := hQ_ hx
 have HA := hQ_ hA
 have HPL := hQ_ (cutL_len a n)
 generalize cutL a n = P at *
 clear hr hl hW hK hT hv h0 h1 a0 an hx hA
 go_enter Tryz.func108,Tryz.ntmps108
 go_wp2_with fail
 refine HC.out.mono ?_
 rintro e w1 ⟨PA,pn,pc,rfl,hso,hb1⟩
 have HP := hQ_ hso
 clear hso
 have HPA : Hid (∀ b o,PA = some ⟨b,o,none⟩ → w.heap.size ≤ b ∧ b < w1.heap.size) := hQ_ (fun b o e => HP.out.lt (by rw [e]; rfl))
 have A2 := hQ_ (A0.out.owns HS.out hb1 (Q := fun b => ∃ o,PA = some ⟨b,o,none⟩) (fun b ⟨o,e⟩ => HPA.out b o e))
 have HX1 := hQ_ (HX.out.below hb1)
 clear hb1
 go_wp2_with fail
 go_loopw [3,20] (fun u i wr => ∃ (k m d : Nat) (B : Option Addr) (ys : List Int) (s1 : Vs) (S' D' : Nat → Prop) (don : List Wrt),i = .int .i64 k ∧ k ≤ pn ∧ u = .slice B m d ∧ m ≤ d ∧ d ≤ 9223372036854775807 ∧ Hid (Bs wr B m ys) ∧ Hid (∀ b o,B = some ⟨b,o,none⟩ → ∃ o',A = some ⟨b,o',none⟩) ∧ Hid (At Rep w S D (fun b => ∃ o,PA = some ⟨b,o,none⟩) wr v s1 S' D') ∧ Hid (So trE 183 wr w.heap.size (.slice PA pn pc) pn P) ∧ Hid (WrI s s1 ino ys xs P (P.drop k) don)) (fun _ i _ => pn - (intOf i).toNat)
 case atStart => exact ⟨0,n,c,A,xs,s,S,D,[],rfl,Nat.zero_le _,rfl,hc,hbig,HX1,hQ_ (fun b o e => ⟨o,e⟩),hQ_ (A2.out.less (fun b h => .inr h)),HP,HI0⟩
 case round =>
  obtain ⟨k,m,d,B,ys,s1,S',D',don,rfl,hk,rfl,hmd,hdb,HY,HBA,HAT,HL,HI⟩ := hrel
  by_cases hlt : k < pn
  ·obtain ⟨p,g,o,hp,rfl,hg,hcl⟩ := HL.out.sl.get k hlt
   have hok := HPO.out p (List.mem_of_getElem? hp)
   have HPK := hQ_ hp
   have hsd := sum_drop hp
   have hln := HI.out.len
   have hym := HY.out.1
   obtain ⟨p1,p2,p3⟩ := p
   obtain ⟨o1,o2,o3,o4,o5⟩ := hok
   dsimp only at o1 o2 o3 o4 o5 hsd
   obtain ⟨f,rfl⟩ : ∃ f : Nat,p2 = (f : Int) := ⟨p2.toNat,by omega⟩
   obtain ⟨q,rfl⟩ : ∃ q : Nat,p3 = (q : Int) := ⟨p3.toNat,by omega⟩
   have hqm : q ≤ m := by rw [← hym,hln,hsd]; omega
   obtain ⟨c1,c2,c3⟩ := tr_cells hcl
   dsimp only at c1 c2 c3
   go_wp2_with ((with_reducible refine pick (some 23) ?_); refine wpList_load_mid rfl 183 _ rfl g (o + k * 3) rfl [.int .i64 p1,.int .i64 (f : Int),.int .i64 (q : Int)] _ hcl Tryz.underlying183 rfl info3 ?_)
   have Z := Blk.new_ wr #[.int .i64 p1,.int .i64 (f : Int),.int .i64 (q : Int)] 183
   have z1 : _ = some (Value.int .i64 p1) := Z.cell 0
   have z2 : _ = some (Value.int .i64 (f : Int)) := Z.cell 1
   have z3 : _ = some (Value.int .i64 (q : Int)) := Z.cell 2
   have hb2 : Below wr.heap.size wr (wr.alloc (.cells #[.int .i64 p1,.int .i64 (f : Int),.int .i64 (q : Int)] 183)).drew := (bW_).drew
   have A3 := hQ_ (HAT.out.below HS.out hb2)
   have Y3 := hQ_ (HY.out.below hb2)
   have L3 := hQ_ (HL.out.below hb2)
   have G3 := hQ_ (HG.out p1 _ _ _ _ A3.out.rep (HI.out.lim HLI.out) HI.out.v64 o1 o2)
   clear hcl c1 c2 c3 hb2 hp hsd hln hym
   go_region
   clear z1 z2 z3 Z
   go_wp2_with fail
   refine G3.out.mono ?_
   rintro e w4 ⟨S4,D4,rfl,hr4,st4⟩
   obtain ⟨bb,bo,rfl,hbb,_⟩ := Y3.out.2.2 0 (by omega)
   have OF := hQ_ (off_of HAT.out HA.out HBA.out)
   have A4 := hQ_ (A3.out.step HS.out hr4 st4)
   have Y4 := hQ_ (bs_stp Y3.out st4.chg (fun b o e => (OF.out b o e).1))
   have L4 := hQ_ (so_chg L3.out st4.chg (fun b hb => by cases hb; exact A3.out.apart HS.out ⟨o,rfl⟩))
   clear hr4 st4 hbb
   unfold BlkV
   have hgl := getB_len s1.shown ino p1
   have hgb := getB_bd s1.shown ino p1
   have HPC : Hid (setB (getB s1.shown ino p1) (ys.take q) f = sp_ (getB s1.shown ino p1) (ys.take q) f) := hQ_ rfl
   have HSL : Hid ((sp_ (getB s1.shown ino p1) (ys.take q) f).length = 64) := hQ_ (by
    rw [← HPC.out,setB_len _ _ _ (by rw [List.length_take,hgl]; omega),hgl])
   have HSB : Hid (∀ x ∈ sp_ (getB s1.shown ino p1) (ys.take q) f,0 ≤ x ∧ x ≤ 255) := hQ_ (by rw [← HPC.out]; exact setb_bd hgb (fun x hx => Y4.out.2.1 x (List.mem_of_mem_take hx)))
   have HNX := hQ_ (fun (s2 : Vs) (b : List Int) (hb : setB (getB s1.shown ino p1) (ys.take q) f = b) (hlen : b.length ≤ 64) (ha : Aft s1 s2 [putP ino p1 b] 0 0) (hg : (goW s1 [putP ino p1 b]).2 = true) => HI.out.next (HS.out.ok A4.out.rep) HPK.out hb hlen ha hg)
   have HST := hQ_ (fun (s2 : Vs) (b : List Int) (hb : setB (getB s1.shown ino p1) (ys.take q) f = b) (ha : Aft s1 s2 [putP ino p1 b] 0 0) (hg : (goW s1 [putP ino p1 b]).2 = false) => HI.out.stop HPK.out hb ha hg)
   generalize getB s1.shown ino p1 = l at *
   have hbz := bN_ w4 (.cells Z64 184)
   have R5 : Hid (Blk (w4.alloc (.cells Z64 184)) w4.heap.size (u8A (List.replicate 64 0)) 184) := hQ_ (Blk.new_ w4 Z64 _)
   go_wp2_with ((with_reducible refine pick none ?_); refine store_blk rfl 184 _ _ rfl w4.heap.size (u8A l) rfl rfl 184 _ R5.out (by rw [u8A_size,hgl]; exact info64) (by rw [u8A_size,u8A_size,hgl,List.length_replicate]) (u8A_all _) ?_; intro w5 hk5 hg5)
   have HB5 : Below w4.heap.size w4 w5 := hbz.grown hg5 hbz.size (fun k hk => by injection hk with hk; omega)
   have hz5 : w4.heap.size < w5.heap.size := hk5.lt
   have A5 := hQ_ (A4.out.own HS.out HB5 (Nat.le_refl w4.heap.size) hz5)
   have Y5 := hQ_ (Y4.out.below HB5)
   have L5 := hQ_ (L4.out.below HB5)
   have K5 := hQ_ hk5
   have hz4 := A4.out.size
   clear hgb
   have K5d := hQ_ K5.out.drew
   have Y5d := hQ_ (Y5.out.below ((Below.refl _ _).drew))
   have A5d := hQ_ (A5.out.below HS.out ((Below.refl _ _).drew))
   have L5d := hQ_ (L5.out.below ((Below.refl _ _).drew))
   refine wp_region_still_tail 5 (by kernel_rfl) (by kernel_rfl) ?_
   change wpStill _ _ w5.drew (fun a' => wpList _ _ _ _ a' w5.drew) _ _
   obtain ⟨wd,hwd⟩ : ∃ wd,w5.drew = wd := ⟨_,rfl⟩
   rw [hwd] at K5d Y5d A5d L5d ⊢
   simp only [List.take_succ_cons,List.take_zero,List.drop_succ_cons,List.drop_zero]
   refine sr_move _ rfl (by kernel_rfl) (.int .i64 (f : Int)) rfl ?_; simp only [pZ_]
   refine sr_slice _ _ _ _ _ rfl (by kernel_rfl) _ (slice64l wd w4.heap.size f (by omega)) ?_; simp only [pZ_]
   refine sr_move _ rfl (by kernel_rfl) (.slice (some ⟨bb,bo,none⟩) m d) rfl ?_; simp only [pZ_]
   refine sr_move _ rfl (by kernel_rfl) (.int .i64 (q : Int)) rfl ?_; simp only [pZ_]
   refine sr_slice _ _ _ _ _ rfl (by kernel_rfl) _ (slice_bh wd _ m d q (by omega)) ?_; simp only [pZ_]
   refine wpStill_nil ?_
   have hzd : w4.heap.size < wd.heap.size := K5d.out.lt
   have HSRC : ∀ (j : Nat) (x : Int),(ys.take q)[j]? = some x → wd.cell? ((⟨bb,bo,none⟩ : Addr).add j) = some (.int .u8 x) := fun j x hx => by
    have hj : j < q := by
     have := (List.getElem?_eq_some_iff.1 hx).1
     rw [List.length_take] at this
     omega
    have h1 := Y5d.out.at_ j (by omega)
    rw [List.getElem?_take,if_pos hj] at hx
    rw [List.getD_eq_getElem?_getD,hx] at h1
    unfold Addr.add
    by_cases h0 : j = 0
    ·subst h0; simpa using h1
    ·simpa [h0] using h1
   have hyl := Y5d.out.1
   refine wpList_copy_row rfl _ _ 39 39 rfl 5 Tryz.underlying39 (by kernel_rfl) w4.heap.size f (64 - f) (64 - f) ⟨bb,bo,none⟩ q d rfl rfl l 184 K5d.out (ys.take q) (by rw [List.length_take]; show _ = min q (64 - f); omega) HSRC (by rw [List.length_take]; omega) ?_
   intro w6 hk6 hg6
   simp only [pZ_]
   clear HSRC
   have A6 := hQ_ (A5d.out.stored HS.out K5d.out (.inr rfl) (by decide) hg6)
   have Y6 := hQ_ (bs_grown Y5d.out hg6 (fun b o e => by have := (OF.out b o e).2; omega))
   have L6 := hQ_ (L5d.out.grown hg6 (so_off L4.out (Nat.le_refl _)))
   have X6 : Hid (Bs w6 (some ⟨w4.heap.size,0,none⟩) 64 (sp_ l (ys.take q) f)) := hQ_ (by
    have := blk_bs hk6 HSB.out
    rw [HSL.out] at this
    exact this)
   clear hk6 hg6 hyl
   go_wp2_with ((with_reducible refine pick (some 43) ?_); refine wpList_slice rfl _ _ _ _ _ rfl _ (slice64a w6 w4.heap.size) ?_)
   refine (HPT.out p1 _ s1 _ _ _ _ A6.out.rep (HI.out.lim HLI.out) o1 o2 X6.out).mono ?_
   intro e w7 h7
   rcases Wrote.split h7 with ⟨s7,S7,D7,rfl,hg7,hr7,st7,af7⟩ | ⟨s7,S7,D7,rfl,hg7,hr7,st7,af7⟩
   ·have A7 := hQ_ ((A6.out.step HS.out hr7 st7).less (M' := fun b => ∃ o',(some ⟨g,o,none⟩ : Option Addr) = some ⟨b,o',none⟩) (fun b hb => .inl hb))
    have OF4 := off_of A6.out HA.out HBA.out
    have y7 := bs_stp Y6.out st7.chg (fun b o e => (OF4 b o e).1)
    have L7 := hQ_ (so_chg L6.out st7.chg (fun b hb => by cases hb; exact A6.out.apart HS.out (.inl ⟨o,rfl⟩)))
    obtain ⟨don2,i7⟩ := HNX.out s7 _ HPC.out (by rw [HSL.out]; exact Nat.le_refl _) af7 hg7
    have I7 := hQ_ i7
    obtain ⟨B2,hs48,hB2⟩ := slice_bl w7 bb bo m d q (by omega) (by omega)
    have Y8 : Hid (Bs w7 B2 (m - q) (ys.drop q)) := hQ_ (by
     rcases hB2 with rfl | ⟨hmq,rfl⟩
     ·exact bs_back y7 q hqm
     ·have e1 : ys.drop q = [] := List.drop_eq_nil_of_le (by rw [y7.1]; omega)
      rw [e1,show m - q = 0 by omega]
      exact Bs.nil_ _ _)
    have BA2 : Hid (∀ b o,B2 = some ⟨b,o,none⟩ → ∃ o',A = some ⟨b,o',none⟩) := hQ_ (fun b o e => by
     rcases hB2 with rfl | ⟨_,rfl⟩
     ·injection e with e
      injection e with e _
      subst e
      exact HBA.out _ _ rfl
     ·exact HBA.out _ _ e)
    clear h7 hr7 st7 af7 hg7 OF4 y7 i7 hB2
    have hpn : pn ≤ 4096 := by rw [← HP.out.1]; exact HPL.out
    go_wp2_with ((with_reducible refine pick (some 48) ?_); refine wpList_slice rfl _ _ _ _ _ rfl _ hs48 ?_)
    go_roundw
    case rel => exact ⟨k + 1,m - q,d - q,B2,ys.drop q,s7,S7,D7,don2,by go_num,by omega,rfl,by omega,by omega,Y8,BA2,A7,L7,I7⟩
    case measure => simp [intOf]; omega
   ·have A7 := hQ_ (A6.out.step HS.out hr7 st7)
    have C7 := hQ_ (HST.out s7 _ HPC.out af7 hg7)
    clear h7 hr7 st7 af7 hg7
    go_wp2_with fail
    go_ret
    exact ⟨s7,S7,D7,by rw [C7.out.2]; rfl,A7.out.rep,A7.out.st,C7.out.1⟩
  ·obtain rfl : k = pn := by omega
   have C9 := hQ_ (HI.out.done (by rw [HP.out.1]; exact Nat.le_refl _))
   go_wp2_with fail
   go_ret
   exact ⟨s1,S',D',by rw [C9.out.2]; rfl,HAT.out.rep,HAT.out.st,C9.out.1⟩
end Go.Proofs.YtobbofdnhbgioaaGreatDoor.FileKe
namespace Go.Proofs.YtobbofdnhbgioaaGreatDoor.FileKg
open Go.RowKit
open Byte PackM KeysM TreeR ViewM NodeM WalkM WalkF WalkKm DirsV FileM FileV Lst Chg TreeL ViewL WalkL WalkV Vat DirsK DirsKa FileK FileKd FileKe
open TreeM hiding cutL
open Own hiding keeps
variable {Rep : RepT}
theorem fil_bd (L : List Pr) (ino : Int) : InoB (filV L ino).1.k (filV L ino).1.l (filV L ino).1.s (filV L ino).1.p := by
 unfold filV
 split
 ·have h := load_k L ino
  exact ⟨h.1,h.2.1,h.2.2.1,h.2.2.2.1,h.2.2.2.2.1,h.2.2.2.2.2.1,h.2.2.2.2.2.2.1,h.2.2.2.2.2.2.2⟩
 ·exact ⟨by decide,by decide,by decide,by decide,by decide,by decide,by decide,by decide⟩
def ReadE (Rep : RepT) (v : Value) (s' : Vs) (r : List Int × Int) (S D : Nat → Prop) (w : World) (e : Ending) (w' : World) : Prop := ∃ u m S' D',e = .returned (.tuple #[u,.int .i64 r.2]) ∧ So u8E 5 w' w.heap.size u m r.1 ∧ Rep w' v s' S' D' ∧ Stp S D S' D' w w' ∧ ∀ b,u.ownBlock = some b → ¬ D' b
theorem Read_calls (hW : Wk Rep) (hK : LookOk Rep) {w : World} {v : Value} {s : Vs} {S D : Nat → Prop} (ino a n : Int) (hr : Rep w v s S D) (hl : Lim s) (h2 : s.rd.length ≤ 19990) (h0 : 0 ≤ ino) (h1 : ino ≤ 4294967295) (a0 : -9223372036854775808 ≤ a) (a1 : a ≤ 9223372036854775807) (n0 : -9223372036854775808 ≤ n) (n1 : n ≤ 9223372036854775807) (hv : V64 s.shown ino) :
 Calls Tryz.prog 82 #[v,.int .u32 ino,.int .i64 a,.int .i64 n] w (ReadE Rep v (s.read (kI ino)) (reaV s.shown ino a n) S D w) := by
 have A0 := hQ_ (At.start hr)
 have HLD := hQ_ (FileK.load_calls hW ino hr hl h0 h1)
 unfold FilV at HLD
 have HS := hQ_ hW.stays
 have hl2 : Lim (s.read (kI ino)) := ⟨hl.base,by have := read_len s (kI ino); omega,hl.rg⟩
 have hsh : (s.read (kI ino)).shown = s.shown := ((Sm.refl s).read _).shown
 have HRD := hQ_ (fun (m : Int) (w1 : World) (S1 D1 : Nat → Prop) (hr1 : Rep w1 v (s.read (kI ino)) S1 D1) (b0 : 0 ≤ a) (m0 : -9223372036854775808 ≤ m) (m1 : m ≤ 9223372036854775807) => read_calls hW hK ino a m hr1 hl2 h0 h1 b0 a1 m0 m1 (by rw [hsh]; exact fun q q0 q1 => hv q q0 (by omega)))
 rw [hsh] at HRD
 have hbd := fil_bd s.shown ino
 unfold reaV
 obtain ⟨q,hfx⟩ : ∃ q,filV s.shown ino = q := ⟨_,rfl⟩
 rw [hfx] at hbd HLD ⊢
 obtain ⟨⟨xk,xl,xz,xp⟩,xe⟩ := q
 dsimp only at hbd HLD ⊢
 obtain ⟨b0,b1,b2,b3,b4,b5,b6,b7⟩ := hbd
 generalize s.read (kI ino) = s1 at *
 clear hr hl hv hW hK hl2 hsh hfx
 by_cases he : xe = 0
 ·subst he
  rw [if_neg (by decide)]
  by_cases hc : a < 0 ∨ n < 0 ∨ 1024 < n
  ·rw [if_pos hc]
   by_cases c1 : a < 0
   ·have d1 : decide (a < 0) = true := by simpa using c1
    clear hc
    go_enter Tryz.func82,Tryz.ntmps82
    go_wp2_with fail
    refine HLD.out.mono ?_
    rintro e w1 ⟨S1,D1,rfl,hr1,st1⟩
    have hbn := bN_ w1 (.cells #[.int .u8 xk,.int .u32 xl,.int .u32 xz,.int .u32 xp] 46)
    have A1 := hQ_ ((A0.out.step HS.out hr1 st1).below HS.out hbn)
    clear hr1 st1 hbn
    go_wp2_with fail
    go_ret2
    exact ⟨_,0,S1,D1,rfl,So.nil_ _ _ _ _,A1.out.rep,A1.out.st,fun _ h => by cases h⟩
   ·have d1 : decide (a < 0) = false := by simpa using c1
    by_cases c2 : n < 0
    ·have d2 : decide (n < 0) = true := by simpa using c2
     clear hc
     go_enter Tryz.func82,Tryz.ntmps82
     go_wp2_with fail
     refine HLD.out.mono ?_
     rintro e w1 ⟨S1,D1,rfl,hr1,st1⟩
     have hbn := bN_ w1 (.cells #[.int .u8 xk,.int .u32 xl,.int .u32 xz,.int .u32 xp] 46)
     have A1 := hQ_ ((A0.out.step HS.out hr1 st1).below HS.out hbn)
     clear hr1 st1 hbn
     go_wp2_with fail
     go_ret2
     exact ⟨_,0,S1,D1,rfl,So.nil_ _ _ _ _,A1.out.rep,A1.out.st,fun _ h => by cases h⟩
    ·have d2 : decide (n < 0) = false := by simpa using c2
     have c3 : 1024 < n := by omega
     have d3 : decide (n > 1024) = true := by simpa using c3
     clear hc
     go_enter Tryz.func82,Tryz.ntmps82
     go_wp2_with fail
     refine HLD.out.mono ?_
     rintro e w1 ⟨S1,D1,rfl,hr1,st1⟩
     have hbn := bN_ w1 (.cells #[.int .u8 xk,.int .u32 xl,.int .u32 xz,.int .u32 xp] 46)
     have A1 := hQ_ ((A0.out.step HS.out hr1 st1).below HS.out hbn)
     clear hr1 st1 hbn
     go_wp2_with fail
     go_ret2
     exact ⟨_,0,S1,D1,rfl,So.nil_ _ _ _ _,A1.out.rep,A1.out.st,fun _ h => by cases h⟩
  ·rw [if_neg hc]
   have d1 : decide (a < 0) = false := by simp; omega
   have d2 : decide (n < 0) = false := by simp; omega
   have d3 : decide (n > 1024) = false := by simp; omega
   have e1 : wrap64 (xz - a) = xz - a := by unfold wrap64; omega
   have e2 : wrap64 xz = xz := by unfold wrap64; omega
   have HRM := hQ_ (fun (w1 : World) (S1 D1 : Nat → Prop) (hr1 : Rep w1 v s1 S1 D1) => HRD.out (min n (xz - a)) w1 S1 D1 hr1 (by omega) (by omega) (by omega))
   have a2 : 0 ≤ a := by omega
   clear hc HRD
   go_enter Tryz.func82,Tryz.ntmps82
   go_wp2_with fail
   refine HLD.out.mono ?_
   rintro e w1 ⟨S1,D1,rfl,hr1,st1⟩
   have hbn := bN_ w1 (.cells #[.int .u8 xk,.int .u32 xl,.int .u32 xz,.int .u32 xp] 46)
   have A1 := hQ_ ((A0.out.step HS.out hr1 st1).below HS.out hbn)
   have f2 : (w1.alloc (.cells #[.int .u8 xk,.int .u32 xl,.int .u32 xz,.int .u32 xp] 46)).cell? ⟨w1.heap.size,2,none⟩ = some (.int .u32 xz) := (Blk.new_ w1 #[.int .u8 xk,.int .u32 xl,.int .u32 xz,.int .u32 xp] 46).cell 2
   clear hr1 st1 hbn
   go_wp2_with fail
   refine (HRM.out _ _ _ A1.out.rep).mono ?_
   rintro e w2 ⟨u,m,S2,D2,rfl,hso,hr2,st2,hn2⟩
   have A2 := hQ_ (A1.out.step HS.out hr2 st2)
   have O2 := hQ_ (hso.lower A1.out.size)
   have N2 := hQ_ hn2
   clear hso hr2 st2 f2 hn2
   go_wp2_with fail
   go_ret2
   exact ⟨u,m,S2,D2,rfl,O2.out,A2.out.rep,A2.out.st,N2.out⟩
 ·rw [if_pos he]
  have d1 : (xe != 0) = true := by simpa using he
  clear he
  go_enter Tryz.func82,Tryz.ntmps82
  go_wp2_with fail
  refine HLD.out.mono ?_
  rintro e w1 ⟨S1,D1,rfl,hr1,st1⟩
  have hbn := bN_ w1 (.cells #[.int .u8 xk,.int .u32 xl,.int .u32 xz,.int .u32 xp] 46)
  have A1 := hQ_ ((A0.out.step HS.out hr1 st1).below HS.out hbn)
  clear hr1 st1 hbn
  go_wp2_with fail
  go_ret2
  exact ⟨_,0,S1,D1,rfl,So.nil_ _ _ _ _,A1.out.rep,A1.out.st,fun _ h => by cases h⟩
end Go.Proofs.YtobbofdnhbgioaaGreatDoor.FileKg
namespace Go.Proofs.YtobbofdnhbgioaaGreatDoor.FileKh
open Go.RowKit
open Byte PackM KeysM TreeR ViewM NodeM NodeG WalkM WalkF WalkKm DirsV FileM FileV Lst Chg TreeL ViewL WalkL WalkV Vat WalkKa DirsK DirsKa FileK FileKd FileKe FileKg
open TreeM hiding cutL
open Own hiding keeps
variable {Rep : RepT}
theorem aft_load (s : Vs) (k : ByteArray) : Aft s (s.read k) [] 1 0 ∧ (goW s []).2 = true := ⟨Aft.nil ((Sm.refl s).read k) (read_len s k) (Nat.le_refl _),rfl⟩
theorem ans_err {v : Value} {s : Vs} {k : ByteArray} {er : Int} {S D M S' D' : Nat → Prop} {w w' : World} (A : At Rep w S D M w' v (s.read k) S' D') : Ans Rep v s er [] 1 0 S D w (.returned (.int .i64 er)) w' := Ans.ok A (aft_load s k)
theorem Write_calls (hW : Wk Rep) (hK : LookOk Rep) (hT : SetOk Rep) {w : World} {v : Value} {s : Vs} {S D : Nat → Prop} (ino a : Int) {A : Option Addr} {n c : Nat} {xs : List Int} (hr : Rep w v s S D) (hl : Lim s) (h2 : s.rd.length ≤ 19990) (h0 : 0 ≤ ino) (h1 : ino ≤ 4294967295) (a0 : -9223372036854775808 ≤ a) (a1 : a ≤ 9223372036854775807) (hx : Bs w A n xs) (hc : n ≤ c) (hbig : c ≤ 9223372036854775807) (hA : 0 < n → ∀ b o,A = some ⟨b,o,none⟩ → ¬ S b ∧ b < w.heap.size) (hv : V64 s.shown ino) :
 Calls Tryz.prog 83 #[v,.int .u32 ino,.int .i64 a,.slice A n c] w (Ans Rep v s (wriV s.shown ino a xs).1 (wriV s.shown ino a xs).2 1 0 S D w) := by
 have A0 := hQ_ (At.start hr)
 have HLD := hQ_ (FileK.load_calls hW ino hr hl h0 h1)
 unfold FilV at HLD
 have HS := hQ_ hW.stays
 have hl2 : Lim (s.read (kI ino)) := ⟨hl.base,by have := read_len s (kI ino); omega,hl.rg⟩
 have hsh : (s.read (kI ino)).shown = s.shown := ((Sm.refl s).read _).shown
 have HWR := hQ_ (fun (w1 : World) (S1 D1 : Nat → Prop) (hr1 : Rep w1 v (s.read (kI ino)) S1 D1) (b0 : 0 ≤ a) (bn : a + n ≤ 4096) (hx1 : Bs w1 A n xs) (hA1 : ∀ b o,A = some ⟨b,o,none⟩ → ¬ S1 b ∧ b < w1.heap.size) => write_calls hW hK hT ino a hr1 hl2 h0 h1 b0 bn hx1 hc hbig hA1 (by rw [hsh]; exact hv))
 have HSV := hQ_ (fun (k l z p : Int) (w1 : World) (s5 : Vs) (S1 D1 : Nat → Prop) (hr1 : Rep w1 v s5 S1 D1) (hl5 : Lim s5) (hb : InoB k l z p) => save_w hW ino k l z p hr1 hl5 h0 h1 hb)
 have HRO := hQ_ FileK.room_calls
 have HL2 := hQ_ hl2
 have C1 := hQ_ (aft_load s (kI ino))
 have hbd := fil_bd s.shown ino
 unfold wriV
 rw [hx.1]
 obtain ⟨q,hfx⟩ : ∃ q,filV s.shown ino = q := ⟨_,rfl⟩
 rw [hfx] at hbd HLD ⊢
 obtain ⟨⟨xk,xl,xz,xp⟩,xe⟩ := q
 dsimp only at hbd HLD ⊢
 obtain ⟨b0,b1,b2,b3,b4,b5,b6,b7⟩ := hbd
 have HX := hQ_ hx
 have HA := hQ_ hA
 have HER : ∀ (er : Int) (M S' D' : Nat → Prop) (w' : World),At Rep w S D M w' v (s.read (kI ino)) S' D' → Ans Rep v s er [] 1 0 S D w (.returned (.int .i64 er)) w' := fun er M S' D' w' h => ans_err h
 have HERR := hQ_ HER
 clear HER
 generalize hs1 : s.read (kI ino) = s1 at *
 clear hr hl hv hW hK hT hl2 hsh hfx hx hA hs1
 by_cases he : xe = 0
 ·subst he
  rw [if_neg (by decide)]
  by_cases hc1 : a < 0 ∨ 1024 < n
  ·rw [if_pos hc1]
   by_cases c1 : a < 0
   ·have d1 : decide (a < 0) = true := by simpa using c1
    clear hc1
    go_enter Tryz.func83,Tryz.ntmps83
    go_wp2_with fail
    refine HLD.out.mono ?_
    rintro e w1 ⟨S1,D1,rfl,hr1,st1⟩
    have hbn := bN_ w1 (.cells #[.int .u8 xk,.int .u32 xl,.int .u32 xz,.int .u32 xp] 46)
    have A1 := hQ_ ((A0.out.step HS.out hr1 st1).below HS.out hbn)
    clear hr1 st1 hbn
    go_wp2_with fail
    go_ret
    exact HERR.out _ _ _ _ _ A1.out
   ·have d1 : decide (a < 0) = false := by simpa using c1
    have c3 : 1024 < (n : Int) := by omega
    have d3 : decide ((n : Int) > 1024) = true := by simpa using c3
    clear hc1
    go_enter Tryz.func83,Tryz.ntmps83
    go_wp2_with fail
    refine HLD.out.mono ?_
    rintro e w1 ⟨S1,D1,rfl,hr1,st1⟩
    have hbn := bN_ w1 (.cells #[.int .u8 xk,.int .u32 xl,.int .u32 xz,.int .u32 xp] 46)
    have A1 := hQ_ ((A0.out.step HS.out hr1 st1).below HS.out hbn)
    clear hr1 st1 hbn
    go_wp2_with fail
    go_ret
    exact HERR.out _ _ _ _ _ A1.out
  ·rw [if_neg hc1]
   have d1 : decide (a < 0) = false := by simp; omega
   have d3 : decide ((n : Int) > 1024) = false := by simp; omega
   have e1 : wrap64 (4096 - (n : Int)) = 4096 - (n : Int) := by unfold wrap64; omega
   by_cases c4 : 4096 - (n : Int) < a
   ·rw [if_pos c4]
    have d4 : decide (a > 4096 - (n : Int)) = true := by simpa using c4
    clear hc1
    go_enter Tryz.func83,Tryz.ntmps83
    go_wp2_with fail
    refine HLD.out.mono ?_
    rintro e w1 ⟨S1,D1,rfl,hr1,st1⟩
    have hbn := bN_ w1 (.cells #[.int .u8 xk,.int .u32 xl,.int .u32 xz,.int .u32 xp] 46)
    have A1 := hQ_ ((A0.out.step HS.out hr1 st1).below HS.out hbn)
    clear hr1 st1 hbn
    go_wp2_with fail
    go_ret
    exact HERR.out _ _ _ _ _ A1.out
   ·rw [if_neg c4]
    have d4 : decide (a > 4096 - (n : Int)) = false := by simp; omega
    by_cases c5 : n = 0
    ·rw [if_pos c5]
     have d5 : ((n : Int) == 0) = true := by rw [beq_iff_eq]; omega
     clear hc1
     go_enter Tryz.func83,Tryz.ntmps83
     go_wp2_with fail
     refine HLD.out.mono ?_
     rintro e w1 ⟨S1,D1,rfl,hr1,st1⟩
     have hbn := bN_ w1 (.cells #[.int .u8 xk,.int .u32 xl,.int .u32 xz,.int .u32 xp] 46)
     have A1 := hQ_ ((A0.out.step HS.out hr1 st1).below HS.out hbn)
     clear hr1 st1 hbn
     go_wp2_with fail
     go_ret
     exact HERR.out _ _ _ _ _ A1.out
    ·rw [if_neg c5]
     have d5 : ((n : Int) == 0) = false := by rw [beq_eq_false_iff_ne]; omega
     have e2 : wrap64 (a + (n : Int)) = a + (n : Int) := by unfold wrap64; omega
     have e3 : (a + (n : Int)) % 4294967296 = a + (n : Int) := by omega
     have hbm : InoB xk xl (max xz (a + (n : Int))) xp := ⟨b0,b1,b2,b3,by omega,by omega,b6,b7⟩
     have HBM := hQ_ hbm
     have e4 : NodeL.cutL a n = cutV a n := rfl
     rw [e4] at HWR
     have g0 : 0 ≤ a := by omega
     have g1 : a + (n : Int) ≤ 4096 := by omega
     have HA2 := hQ_ (HA.out (by omega))
     clear hc1 c4 c5 hbm e4
     go_enter Tryz.func83,Tryz.ntmps83
     go_wp2_with fail
     refine HLD.out.mono ?_
     rintro e w1 ⟨S1,D1,rfl,hr1,st1⟩
     have I2 := hQ_ (Blk.new_ w1 #[.int .u8 xk,.int .u32 xl,.int .u32 (max xz (a + (n : Int))),.int .u32 xp] 46)
     have hbn := bX_ I2.out
     have AQ := A0.out.step HS.out hr1 st1
     have A2 := hQ_ (AQ.own HS.out hbn (Nat.le_refl w1.heap.size) (by simp))
     have f2 : (w1.alloc (.cells #[.int .u8 xk,.int .u32 xl,.int .u32 xz,.int .u32 xp] 46)).cell? ⟨w1.heap.size,2,none⟩ = some (.int .u32 xz) := (Blk.new_ w1 #[.int .u8 xk,.int .u32 xl,.int .u32 xz,.int .u32 xp] 46).cell 2
     have X2 := hQ_ ((bs_stp HX.out st1.chg (fun b o e => (HA2.out b o e).1)).below hbn)
     have F2 : Hid (∀ b o,A = some ⟨b,o,none⟩ → ¬ S1 b ∧ b < (w1.alloc (.cells #[.int .u8 xk,.int .u32 xl,.int .u32 (max xz (a + (n : Int))),.int .u32 xp] 46)).heap.size) := hQ_ (fun b o e => by
      have h5 := HA2.out b o e
      refine ⟨fun hs => ?_,?_⟩
      ·rcases st1.own b hs with q | q
       ·exact h5.1 q
       ·omega
      ·have := A2.out.size
       omega)
     clear hr1 st1 hbn AQ
     go_wp2_with fail
     refine (HWR.out _ _ _ A2.out.rep g0 g1 X2.out F2.out).mono ?_
     intro e w3 h3
     rcases Wrote.split h3 with ⟨s3,S3,D3,rfl,hg3,hr3,st3,af3⟩ | ⟨s3,S3,D3,rfl,hg3,hr3,st3,af3⟩
     ·have A3 := hQ_ (A2.out.step HS.out hr3 st3)
      have I3 := hQ_ (A2.out.blk HS.out I2.out (.inr rfl) st3)
      have q3 := C1.out.1.app C1.out.2 af3
      have C3 : Hid (Aft s s3 (wrPs ino xs (cutV a n)) 1 0 ∧ (goW s (wrPs ino xs (cutV a n))).2 = true) := hQ_ ⟨q3.1,q3.2.trans hg3⟩
      have L3 : Hid (Lim s3) := hQ_ (lim_aft af3 HL2.out (by have := HL2.out.rd; omega) (by have := HL2.out.rg; omega))
      clear h3 hr3 st3 af3 hg3 q3 f2
      have i0 := cC4 I3.out
      go_wp2_with fail
      refine (HSV.out xk xl (max xz (a + (n : Int))) xp _ _ _ _ A3.out.rep L3.out HBM.out).mono ?_
      intro e w4 h4
      rcases Wrote.split h4 with ⟨s4,S4,D4,rfl,hg4,hr4,st4,af4⟩ | ⟨s4,S4,D4,rfl,hg4,hr4,st4,af4⟩
      ·have A4 := hQ_ (A3.out.step HS.out hr4 st4)
       have q4 := C3.out.1.app C3.out.2 af4
       have C4 := hQ_ (And.intro q4.1 (q4.2.trans hg4))
       clear h4 hr4 st4 af4 hg4 q4
       go_wp2_with fail
       refine (HRO.out _ _).mono ?_
       rintro e w5 ⟨rfl,rfl⟩
       go_wp2_with fail
       go_ret
       exact Ans.ok A4.out C4.out
      ·have A4 := hQ_ (A3.out.step HS.out hr4 st4)
       have q4 := C3.out.1.app C3.out.2 af4
       have C4 := hQ_ (And.intro q4.1 (q4.2.trans hg4))
       clear h4 hr4 st4 af4 hg4 q4
       go_wp2_with fail
       refine (HRO.out _ _).mono ?_
       rintro e w5 ⟨rfl,rfl⟩
       go_wp2_with fail
       go_ret
       exact Ans.full A4.out C4.out
     ·have A3 := hQ_ (A2.out.step HS.out hr3 st3)
      have q3 := C1.out.1.app C1.out.2 af3
      have C3 : Hid (Aft s s3 (wrPs ino xs (cutV a n) ++ [saveP ino xk xl (max xz (a + (n : Int))) xp]) 1 0 ∧ (goW s (wrPs ino xs (cutV a n) ++ [saveP ino xk xl (max xz (a + (n : Int))) xp])).2 = false) := hQ_ (q3.1.stop (q3.2.trans hg3))
      clear h3 hr3 st3 af3 hg3 q3 f2
      go_wp2_with fail
      refine (HRO.out _ _).mono ?_
      rintro e w5 ⟨rfl,rfl⟩
      go_wp2_with fail
      go_ret
      exact Ans.full A3.out C3.out
 ·rw [if_pos he]
  have d1 : (xe != 0) = true := by simpa using he
  clear he
  go_enter Tryz.func83,Tryz.ntmps83
  go_wp2_with fail
  refine HLD.out.mono ?_
  rintro e w1 ⟨S1,D1,rfl,hr1,st1⟩
  have hbn := bN_ w1 (.cells #[.int .u8 xk,.int .u32 xl,.int .u32 xz,.int .u32 xp] 46)
  have A1 := hQ_ ((A0.out.step HS.out hr1 st1).below HS.out hbn)
  clear hr1 st1 hbn
  go_wp2_with fail
  go_ret
  exact HERR.out _ _ _ _ _ A1.out
end Go.Proofs.YtobbofdnhbgioaaGreatDoor.FileKh
namespace Go.Proofs.YtobbofdnhbgioaaGreatDoor.OpsW
open Go.RowKit
open Byte KeysM ViewM NodeM WalkM WalkF DirsV FileM FileV Lst Chg TreeL ViewL WalkL Vat Ho DirsK DirsKa FileK FileKd Cpy FileKe FileKg FileKh OpsR OpsD OpsE OpsI OpsJ OpsK OpsS
open TreeM hiding cutL
open Own hiding lower
variable {Rep : RepT}
def AnsN (Rep : RepT) (g : Nat) (v : Value) (hs : List Int) (s : Vs) (er N : Int) (ps : List Wrt) (k m : Nat) (S D : Nat → Prop) (w : World) (e : Ending) (w' : World) : Prop := ∃ J s' S' D',J = (if (goW s ps).2 = true then er else 21) ∧ e = .returned (resV J (if J = 0 then N else 0) (.slice none 0 0) (.slice none 0 0) 0 0 0 0) ∧ Dst Rep w' g v hs s' S' D' ∧ Dstp S D S' D' g w w' ∧ Aft s s' ps k m
def wrtD (L : List Pr) (hs : List Int) (hn frm : Int) (xs : List Int) : Int × List Wrt := if (inoD hs hn).2 = 0 then wriV L (inoD hs hn).1 frm xs else (16,[])
def ReadD (Rep : RepT) (g : Nat) (v : Value) (hs : List Int) (s' : Vs) (r : List Int × Int) (S D : Nat → Prop) (w : World) (e : Ending) (w' : World) : Prop := ∃ (a : Option Addr) (m c : Nat) (S' D' : Nat → Prop),e = .returned (resV r.2 (m : Int) (.slice a m c) (.slice none 0 0) 0 0 0 0) ∧ So u8E 5 w' w.heap.size (.slice a m c) m r.1 ∧ Dst Rep w' g v hs s' S' D' ∧ Dstp S D S' D' g w w'
theorem inoD_er (hs : List Int) (hn : Int) : (inoD hs hn).2 = 0 ∨ (inoD hs hn).2 = 16 := by
 unfold inoD
 repeat' split
 all_goals first | exact .inl rfl | exact .inr rfl
theorem write_deed (hW0 : Wk Rep) (hLk : LookOk Rep) (hSt : SetOk Rep) {w : World} {g : Nat} {v : Value} {hs : List Int} {s : Vs} {S D : Nat → Prop} (o : Op20) (ino : Int) (hdd : Dst Rep w g v hs s S D) (hl : Lim s) (h2 : s.rd.length ≤ 18000) (a0 : -9223372036854775808 ≤ o.frm) (a1 : o.frm ≤ 9223372036854775807) {xs : List Int} (hxs : Bs w o.da o.dn xs) (hc : o.dn ≤ o.dc) (hbig : o.dc ≤ 9223372036854775807) (hA : 0 < o.dn → ∀ b of,o.da = some ⟨b,of,none⟩ → ¬ S b ∧ b < w.heap.size) (hv : V64 s.shown (inoD hs o.hn).1) :
 Calls Tryz.prog 50 #[.pointer (some ⟨g,0,none⟩),o.val,.int .u32 ino] w (AnsN Rep g v hs s (wrtD s.shown hs o.hn o.frm xs).1 o.dn (wrtD s.shown hs o.hn o.frm xs).2 1 0 S D w) := by
 obtain ⟨kind,path,other,hn,frm,n,da,dn,dc⟩ := o
 dsimp only [Op20.val,Op20.cells] at *
 obtain ⟨hr,hd,hng⟩ := hdd
 have hlt := hW0.stays.lt hr
 have hsub := hW0.stays.sub hr
 obtain ⟨W,hW⟩ : ∃ W,(w.alloc (.cells #[.int .u8 kind,.string path,.string other,.int .i64 hn,.int .i64 frm,.int .i64 n,.slice da dn dc] 41)).alloc (.cells zres 48) = W := ⟨_,rfl⟩
 have hs1 : (w.alloc (.cells #[.int .u8 kind,.string path,.string other,.int .i64 hn,.int .i64 frm,.int .i64 n,.slice da dn dc] 41)).heap.size = w.heap.size + 1 := by simp
 have hB : Blk W (w.heap.size + 1) zres 48 := by rw [← hW,← hs1]; exact Blk.new_ _ zres _
 have hO : Blk W w.heap.size #[.int .u8 kind,.string path,.string other,.int .i64 hn,.int .i64 frm,.int .i64 n,.slice da dn dc] 41 := by rw [← hW]; exact (Blk.new_ _ _ _).alloc _
 have hbW : Below w.heap.size w W := by rw [← hW]; exact (bW_).alloc (by rw [hs1]; omega) _
 have hsW : W.heap.size = w.heap.size + 2 := by rw [← hW]; simp
 have hbd : Below w.heap.size w W.drew := hbW.drew
 have HB0 : Hid (Blk W (w.heap.size + 1) zres 48) := hQ_ hB
 have HBD0 : Hid (Blk W.drew (w.heap.size + 1) zres 48) := hQ_ hB
 have HAW := hQ_ ((At.start hr).owns hW0.stays hbW (Q := fun b => b = w.heap.size ∨ b = w.heap.size + 1) (fun b h => by rw [hsW]; omega))
 have HA0 := hQ_ ((At.start hr).owns hW0.stays hbd (Q := fun b => b = w.heap.size ∨ b = w.heap.size + 1) (fun b h => by
  have e : W.drew.heap.size = W.heap.size := rfl
  rw [e,hsW]
  omega))
 have HIN := hQ_ (inode_calls (hd.below hbW) hn)
 have hib := inoD_bd hd.bd hn
 have h3 := cZ3 hO
 have RD : Hid (∀ q0,Chg (fun k => S k ∨ k = w.heap.size + 1) W q0 → Chg (fun k => S k ∨ k = w.heap.size + 1) W q0 ∧ q0.cell? ⟨g,0,none⟩ = some v ∧ q0.cell? ⟨w.heap.size,4,none⟩ = some (.int .i64 frm) ∧ q0.cell? ⟨w.heap.size,5,none⟩ = some (.int .i64 n) ∧ q0.cell? ⟨w.heap.size,6,none⟩ = some (.slice da dn dc)) := hQ_ (fun q0 hq => by
  obtain ⟨c1,c2⟩ := find_cells hd hng hlt hsub hbW hO hq
  exact ⟨hq,c1,c2 4,c2 5,c2 6⟩)
 have HW := hQ_ hW
 have HVS := hQ_ hW0.stays
 have HRW := hQ_ hr
 have HDS := hQ_ hd
 have HNG := hQ_ hng
 have hcc := Write_calls hW0 hLk hSt (inoD hs hn).1 frm (hW0.stays.below hr hbd) hl (by omega) hib.1 hib.2 a0 a1 (hxs.below hbd) hc hbig (fun h b of e => ⟨(hA h b of e).1,Nat.lt_of_lt_of_le (hA h b of e).2 hbd.size⟩) hv
 unfold wrtD
 obtain ⟨⟨io,ie⟩,hI⟩ : ∃ I,inoD hs hn = I := ⟨_,rfl⟩
 have hie := inoD_er hs hn
 rw [hI] at HIN hcc hie ⊢
 dsimp only at HIN hcc hie ⊢
 rcases hie with rfl | rfl
 ·rw [if_pos rfl]
  obtain ⟨er,her⟩ : ∃ er,(wriV s.shown io frm xs).1 = er := ⟨_,rfl⟩
  obtain ⟨ps,hps⟩ : ∃ ps,(wriV s.shown io frm xs).2 = ps := ⟨_,rfl⟩
  rw [her,hps] at hcc ⊢
  obtain ⟨J,hJ⟩ : ∃ J : Int,(if (goW s ps).2 = true then er else 21) = J := ⟨_,rfl⟩
  unfold Ans at hcc
  simp only [hJ] at hcc
  have HC := hQ_ hcc
  have HJ := hQ_ hJ
  have hsz : dn ≤ 9223372036854775807 := Nat.le_trans hc hbig
  clear hW hs1 hO hB hbW hsW hbd hlt hsub hd hr hng hl h2 hW0 hI hcc her hps hJ hib hxs hc hbig hA hv a0 a1 hLk hSt
  go_enter Tryz.func50,Tryz.ntmps50
  go_wp2_with fail
  rw [HW.out]
  go_wp2_with fail
  refine HIN.out.mono ?_
  rintro e w2 ⟨rfl,rfl⟩
  go_wp2_with fail
  refine wp_region_held_drew (S := fun q0 => Chg (fun k => S k ∨ k = w.heap.size + 1) W q0 ∧ q0.cell? ⟨g,0,none⟩ = some v ∧ q0.cell? ⟨w.heap.size,4,none⟩ = some (.int .i64 frm) ∧ q0.cell? ⟨w.heap.size,5,none⟩ = some (.int .i64 n) ∧ q0.cell? ⟨w.heap.size,6,none⟩ = some (.slice da dn dc)) (by kernel_rfl) (RD.out _ (Chg.refl (fun k => S k ∨ k = w.heap.size + 1) W).drew) (fun hHeld => ?_)
  refine hw_ 0 (some 21) ?_
  refine hw_ 1 (some 22) ?_
  refine hw_ 2 (some 23) ?_
  refine hw_ 3 (some 24) ?_
  refine hw_ 4 (some 25) ?_
  refine hw_ 5 (some 26) ?_
  refine hw_ 6 (some 27) ?_
  refine hw_ 7 (some 28) ?_
  refine hw_ 8 (some 29) ?_
  refine ho_step 9 (some 30) rfl rfl (by kernel_rfl) (by kernel_rfl) (fun K hK => ?_)
  go_simp
  go_at_call 83
  refine HC.out.mono ?_
  rintro e w3 ⟨s',S',D',rfl,hr3,st3,aft3⟩
  have hq3 : Chg (fun k => S k ∨ k = w.heap.size + 1) W w3 := (Chg.refl (fun k => S k ∨ k = w.heap.size + 1) W).drew.trans (st3.chg.mono (fun _ _ h => .inl h))
  try go_wp2_with fail
  refine hK.out _ _ (RD.out _ hq3) (fun hHeld2 => ?_)
  clear hHeld
  have hHeld := hHeld2
  clear hHeld2
  clear hK K
  try simp only [pZ_]
  refine hw_ 10 (some 9) ?_
  refine wpAnyH_done (by kernel_rfl) ?_ _
  have HA5 := hQ_ (At.step HVS.out HA0.out hr3 st3)
  have HR5 := hQ_ (At.blk HVS.out HA0.out HBD0.out (.inr (.inr rfl)) st3)
  have HF5 := hQ_ aft3
  have HO5 := hQ_ (RD.out _ hq3)
  have k6 : w3.cell? ⟨w.heap.size,6,none⟩ = some (.slice da dn dc) := HO5.out.2.2.2.2
  clear hHeld hq3 hr3 st3 aft3
  by_cases e1 : J = 0
  ·have HJ0 := hQ_ e1
   subst e1
   go_wp2_with ((with_reducible refine pick none ?_); refine store_blk rfl 48 _ _ rfl (w.heap.size + 1) #[.int .i64 0,.int .i64 (dn : Int),.slice none 0 0,.slice none 0 0,.int .u8 0,.int .u32 0,.int .u32 0,.int .u32 0] rfl rfl 48 _ HR5.out info_res rfl (by simp [Value.oneCell']) ?_; intro w8 hk8 hg8)
   have A8 := At.stored HVS.out HA5.out HR5.out (.inr (.inr rfl)) (by decide) hg8
   exact bodyPost_ret (v := resV 0 (dn : Int) (.slice none 0 0) (.slice none 0 0) 0 0 0 0) (results_cell_row rfl _ _ (w.heap.size + 1) 48 _ (0,0) _ rfl hk8 Tryz.underlying48 rfl info_res) rfl ⟨0,s',S',D',HJ.out.symm,rfl,(Dst.step HVS.out ⟨HRW.out,HDS.out,HNG.out⟩ A8.rep A8.st).1,(Dst.step HVS.out ⟨HRW.out,HDS.out,HNG.out⟩ A8.rep A8.st).2,HF5.out⟩
  ·have d1 : (J == 0) = false := by simpa using e1
   have HNZ := hQ_ e1
   clear e1
   go_wp2_with fail
   refine (only_calls J _).mono ?_
   rintro e w7 ⟨rfl,hb7⟩
   have HR7 := hQ_ (HR5.out.below hb7)
   have HA7 := hQ_ (At.below HVS.out HA5.out hb7)
   clear hb7
   go_wp2_with ((with_reducible refine pick none ?_); refine store_blk rfl 48 _ _ rfl (w.heap.size + 1) #[.int .i64 J,.int .i64 0,.slice none 0 0,.slice none 0 0,.int .u8 0,.int .u32 0,.int .u32 0,.int .u32 0] rfl rfl 48 _ HR7.out info_res rfl (by simp [Value.oneCell']) ?_; intro w8 hk8 hg8)
   have A8 := At.stored HVS.out HA7.out HR7.out (.inr (.inr rfl)) (by decide) hg8
   exact bodyPost_ret (v := onlyV J) (results_cell_row rfl _ _ (w.heap.size + 1) 48 _ (0,0) _ rfl hk8 Tryz.underlying48 rfl info_res) rfl ⟨J,s',S',D',HJ.out.symm,by rw [if_neg HNZ.out],(Dst.step HVS.out ⟨HRW.out,HDS.out,HNG.out⟩ A8.rep A8.st).1,(Dst.step HVS.out ⟨HRW.out,HDS.out,HNG.out⟩ A8.rep A8.st).2,HF5.out⟩
 ·rw [if_neg (by decide)]
  clear hW hs1 hO hB hbW hsW hbd hlt hsub hd hr hng hl h2 hW0 hI hcc hib hxs hc hbig hA hv a0 a1 hLk hSt RD
  go_enter Tryz.func50,Tryz.ntmps50
  go_wp2_with fail
  rw [HW.out]
  go_wp2_with fail
  refine HIN.out.mono ?_
  rintro e w2 ⟨rfl,rfl⟩
  have HA5 := hQ_ HAW.out
  have HR5 := hQ_ HB0.out
  go_wp2_with fail
  refine (only_calls 16 _).mono ?_
  rintro e w7 ⟨rfl,hb7⟩
  have HR7 := hQ_ (HR5.out.below hb7)
  have HA7 := hQ_ (At.below HVS.out HA5.out hb7)
  clear hb7
  go_wp2_with ((with_reducible refine pick none ?_); refine store_blk rfl 48 _ _ rfl (w.heap.size + 1) #[.int .i64 16,.int .i64 0,.slice none 0 0,.slice none 0 0,.int .u8 0,.int .u32 0,.int .u32 0,.int .u32 0] rfl rfl 48 _ HR7.out info_res rfl (by simp [Value.oneCell']) ?_; intro w8 hk8 hg8)
  have A8 := At.stored HVS.out HA7.out HR7.out (.inr (.inr rfl)) (by decide) hg8
  exact bodyPost_ret (v := onlyV 16) (results_cell_row rfl _ _ (w.heap.size + 1) 48 _ (0,0) _ rfl hk8 Tryz.underlying48 rfl info_res) rfl ⟨16,s,S,D,by rw [goW_nil]; rfl,rfl,(Dst.step HVS.out ⟨HRW.out,HDS.out,HNG.out⟩ A8.rep A8.st).1,(Dst.step HVS.out ⟨HRW.out,HDS.out,HNG.out⟩ A8.rep A8.st).2,⟨by rw [goW_nil]; exact Sm.refl _,by omega,by omega⟩⟩
theorem read_deed (hW0 : Wk Rep) (hLk : LookOk Rep) {w : World} {g : Nat} {v : Value} {hs : List Int} {s : Vs} {S D : Nat → Prop} (o : Op20) (ino : Int) (hdd : Dst Rep w g v hs s S D) (hl : Lim s) (h2 : s.rd.length ≤ 18000) (a0 : -9223372036854775808 ≤ o.frm) (a1 : o.frm ≤ 9223372036854775807) (n0 : -9223372036854775808 ≤ o.n) (n1 : o.n ≤ 9223372036854775807) (hv : V64 s.shown (inoD hs o.hn).1) :
 Calls Tryz.prog 49 #[.pointer (some ⟨g,0,none⟩),o.val,.int .u32 ino] w (if (inoD hs o.hn).2 = 0 then ReadD Rep g v hs (s.read (kI (inoD hs o.hn).1)) (reaV s.shown (inoD hs o.hn).1 o.frm o.n) S D w else AnsN Rep g v hs s 16 0 [] 1 0 S D w) := by
 obtain ⟨kind,path,other,hn,frm,n,da,dn,dc⟩ := o
 dsimp only [Op20.val,Op20.cells] at *
 obtain ⟨hr,hd,hng⟩ := hdd
 have hlt := hW0.stays.lt hr
 have hsub := hW0.stays.sub hr
 obtain ⟨W,hW⟩ : ∃ W,(w.alloc (.cells #[.int .u8 kind,.string path,.string other,.int .i64 hn,.int .i64 frm,.int .i64 n,.slice da dn dc] 41)).alloc (.cells zres 48) = W := ⟨_,rfl⟩
 have hs1 : (w.alloc (.cells #[.int .u8 kind,.string path,.string other,.int .i64 hn,.int .i64 frm,.int .i64 n,.slice da dn dc] 41)).heap.size = w.heap.size + 1 := by simp
 have hB : Blk W (w.heap.size + 1) zres 48 := by rw [← hW,← hs1]; exact Blk.new_ _ zres _
 have hO : Blk W w.heap.size #[.int .u8 kind,.string path,.string other,.int .i64 hn,.int .i64 frm,.int .i64 n,.slice da dn dc] 41 := by rw [← hW]; exact (Blk.new_ _ _ _).alloc _
 have hbW : Below w.heap.size w W := by rw [← hW]; exact (bW_).alloc (by rw [hs1]; omega) _
 have hsW : W.heap.size = w.heap.size + 2 := by rw [← hW]; simp
 have hbd : Below w.heap.size w W.drew := hbW.drew
 have HB0 : Hid (Blk W (w.heap.size + 1) zres 48) := hQ_ hB
 have HBD0 : Hid (Blk W.drew (w.heap.size + 1) zres 48) := hQ_ hB
 have HAW := hQ_ ((At.start hr).owns hW0.stays hbW (Q := fun b => b = w.heap.size ∨ b = w.heap.size + 1) (fun b h => by rw [hsW]; omega))
 have HA0 := hQ_ ((At.start hr).owns hW0.stays hbd (Q := fun b => b = w.heap.size ∨ b = w.heap.size + 1) (fun b h => by
  have e : W.drew.heap.size = W.heap.size := rfl
  rw [e,hsW]
  omega))
 have HIN := hQ_ (inode_calls (hd.below hbW) hn)
 have hib := inoD_bd hd.bd hn
 have h3 := cZ3 hO
 have RD : Hid (∀ q0,Chg (fun k => S k ∨ k = w.heap.size + 1) W q0 → Chg (fun k => S k ∨ k = w.heap.size + 1) W q0 ∧ q0.cell? ⟨g,0,none⟩ = some v ∧ q0.cell? ⟨w.heap.size,4,none⟩ = some (.int .i64 frm) ∧ q0.cell? ⟨w.heap.size,5,none⟩ = some (.int .i64 n) ∧ q0.cell? ⟨w.heap.size,6,none⟩ = some (.slice da dn dc)) := hQ_ (fun q0 hq => by
  obtain ⟨c1,c2⟩ := find_cells hd hng hlt hsub hbW hO hq
  exact ⟨hq,c1,c2 4,c2 5,c2 6⟩)
 have HW := hQ_ hW
 have HVS := hQ_ hW0.stays
 have HRW := hQ_ hr
 have HDS := hQ_ hd
 have HNG := hQ_ hng
 have hcc := Read_calls hW0 hLk (inoD hs hn).1 frm n (hW0.stays.below hr hbd) hl (by omega) hib.1 hib.2 a0 a1 n0 n1 hv
 obtain ⟨⟨io,ie⟩,hI⟩ : ∃ I,inoD hs hn = I := ⟨_,rfl⟩
 have hie := inoD_er hs hn
 rw [hI] at HIN hcc hie ⊢
 dsimp only at HIN hcc hie ⊢
 rcases hie with rfl | rfl
 ·rw [if_pos rfl]
  obtain ⟨⟨ys,er⟩,hR⟩ : ∃ R,reaV s.shown io frm n = R := ⟨_,rfl⟩
  rw [hR] at hcc ⊢
  unfold ReadE at hcc
  have HC := hQ_ hcc
  clear hW hs1 hO hB hbW hsW hbd hlt hsub hd hr hng hl h2 hW0 hI hcc hR hib hv a0 a1 n0 n1 hLk
  go_enter Tryz.func49,Tryz.ntmps49
  go_wp2_with fail
  rw [HW.out]
  go_wp2_with fail
  refine HIN.out.mono ?_
  rintro e w2 ⟨rfl,rfl⟩
  go_wp2_with fail
  refine wp_region_held_drew (S := fun q0 => Chg (fun k => S k ∨ k = w.heap.size + 1) W q0 ∧ q0.cell? ⟨g,0,none⟩ = some v ∧ q0.cell? ⟨w.heap.size,4,none⟩ = some (.int .i64 frm) ∧ q0.cell? ⟨w.heap.size,5,none⟩ = some (.int .i64 n) ∧ q0.cell? ⟨w.heap.size,6,none⟩ = some (.slice da dn dc)) (by kernel_rfl) (RD.out _ (Chg.refl (fun k => S k ∨ k = w.heap.size + 1) W).drew) (fun hHeld => ?_)
  refine hw_ 0 (some 22) ?_
  refine hw_ 1 (some 23) ?_
  refine hw_ 2 (some 24) ?_
  refine hw_ 3 (some 25) ?_
  refine hw_ 4 (some 26) ?_
  refine hw_ 5 (some 27) ?_
  refine hw_ 6 (some 28) ?_
  refine hw_ 7 (some 29) ?_
  refine hw_ 8 (some 30) ?_
  refine ho_step 9 (some 31) rfl rfl (by kernel_rfl) (by kernel_rfl) (fun K hK => ?_)
  go_simp
  go_at_call 82
  refine HC.out.mono ?_
  rintro e w3 ⟨u3,m3,S',D',rfl,ho3,hr3,st3,hn3⟩
  obtain ⟨ua,uc,rfl,_,_,_⟩ := Tx.So.head ho3
  have hq3 : Chg (fun k => S k ∨ k = w.heap.size + 1) W w3 := (Chg.refl (fun k => S k ∨ k = w.heap.size + 1) W).drew.trans (st3.chg.mono (fun _ _ h => .inl h))
  try go_wp2_with fail
  refine hK.out _ _ (RD.out _ hq3) (fun hHeld2 => ?_)
  clear hHeld
  have hHeld := hHeld2
  clear hHeld2
  clear hK K
  try simp only [pZ_]
  refine hw_ 10 (some 21) ?_
  refine hw_ 11 (some 32) ?_
  refine hw_ 12 (some 33) ?_
  refine hw_ 13 (some 9) ?_
  refine hw_ 14 (some 8) ?_
  refine wpAnyH_done (by kernel_rfl) ?_ _
  have HA5 := hQ_ (At.step HVS.out HA0.out hr3 st3)
  have HR5 := hQ_ (At.blk HVS.out HA0.out HBD0.out (.inr (.inr rfl)) st3)
  have HO3 := hQ_ ho3
  have HWS := hQ_ (show w.heap.size + 1 < W.drew.heap.size from HBD0.out.lt)
  clear hHeld hq3 hr3 st3 ho3 hn3
  go_wp2_with ((with_reducible refine pick none ?_); refine store_blk rfl 48 _ _ rfl (w.heap.size + 1) #[.int .i64 er,.int .i64 (m3 : Int),.slice ua m3 uc,.slice none 0 0,.int .u8 0,.int .u32 0,.int .u32 0,.int .u32 0] rfl rfl 48 _ HR5.out info_res rfl (by simp [Value.oneCell']) ?_; intro w8 hk8 hg8)
  have A8 := At.stored HVS.out HA5.out HR5.out (.inr (.inr rfl)) (by decide) hg8
  have ho8 := So.grown HO3.out hg8 (by
   cases hb : (Value.slice ua m3 uc).ownBlock with
   | none => exact .inl rfl
   | some q =>
     refine .inr (fun e => ?_)
     have := (HO3.out.lt hb).1
     have := HWS.out
     injection e with e
     omega)
  exact bodyPost_ret (v := resV er (m3 : Int) (.slice ua m3 uc) (.slice none 0 0) 0 0 0 0) (results_cell_row rfl _ _ (w.heap.size + 1) 48 _ (0,0) _ rfl hk8 Tryz.underlying48 rfl info_res) rfl ⟨ua,m3,uc,S',D',rfl,So.lower ho8 (Nat.le_trans (Nat.le_succ _) (Nat.le_of_lt HWS.out)),(Dst.step HVS.out ⟨HRW.out,HDS.out,HNG.out⟩ A8.rep A8.st).1,(Dst.step HVS.out ⟨HRW.out,HDS.out,HNG.out⟩ A8.rep A8.st).2⟩
 ·rw [if_neg (by decide)]
  clear hW hs1 hO hB hbW hsW hbd hlt hsub hd hr hng hl h2 hW0 hI hcc hib hv a0 a1 n0 n1 hLk RD
  go_enter Tryz.func49,Tryz.ntmps49
  go_wp2_with fail
  rw [HW.out]
  go_wp2_with fail
  refine HIN.out.mono ?_
  rintro e w2 ⟨rfl,rfl⟩
  have HA5 := hQ_ HAW.out
  have HR5 := hQ_ HB0.out
  go_wp2_with fail
  refine (only_calls 16 _).mono ?_
  rintro e w7 ⟨rfl,hb7⟩
  have HR7 := hQ_ (HR5.out.below hb7)
  have HA7 := hQ_ (At.below HVS.out HA5.out hb7)
  clear hb7
  go_wp2_with ((with_reducible refine pick none ?_); refine store_blk rfl 48 _ _ rfl (w.heap.size + 1) #[.int .i64 16,.int .i64 0,.slice none 0 0,.slice none 0 0,.int .u8 0,.int .u32 0,.int .u32 0,.int .u32 0] rfl rfl 48 _ HR7.out info_res rfl (by simp [Value.oneCell']) ?_; intro w8 hk8 hg8)
  have A8 := At.stored HVS.out HA7.out HR7.out (.inr (.inr rfl)) (by decide) hg8
  exact bodyPost_ret (v := onlyV 16) (results_cell_row rfl _ _ (w.heap.size + 1) 48 _ (0,0) _ rfl hk8 Tryz.underlying48 rfl info_res) rfl ⟨16,s,S,D,by rw [goW_nil]; rfl,rfl,(Dst.step HVS.out ⟨HRW.out,HDS.out,HNG.out⟩ A8.rep A8.st).1,(Dst.step HVS.out ⟨HRW.out,HDS.out,HNG.out⟩ A8.rep A8.st).2,⟨by rw [goW_nil]; exact Sm.refl _,by omega,by omega⟩⟩
end Go.Proofs.YtobbofdnhbgioaaGreatDoor.OpsW
namespace Go.Proofs.YtobbofdnhbgioaaGreatDoor.OpsT
open Go.RowKit
open Byte KeysM TreeM ViewM NodeM WalkM WalkF DirsV Lst Chg TreeL ViewL WalkL Vat DirsK DirsKa DirsKc FileV FileKd FileKe OpsR OpsD OpsE OpsI OpsJ OpsK OpsS OpsO OpsW
open Own hiding lower
variable {Rep : RepT}
def DoE (Rep : RepT) (Q : Res20 → Nat → World → List Int → Vs → Prop) (g : Nat) (v : Value) (S D : Nat → Prop) (w : World) (e : Ending) (w' : World) : Prop := ∃ (r : Res20) (hs' : List Int) (s' : Vs) (S' D' : Nat → Prop),e = .returned r.val ∧ Dst Rep w' g v hs' s' S' D' ∧ Dstp S D S' D' g w w' ∧ Q r w.heap.size w' hs' s'
structure Qk (Q : Res20 → Nat → World → List Int → Vs → Prop) : Prop where
 keep : ∀ {r b u u' hs s c},Q r b u hs s → u.grownBy u' (some c) → c < b → Q r b u' hs s
 low : ∀ {r b b' u hs s},Q r b u hs s → b' ≤ b → Q r b' u hs s
theorem do_at (hV : Stays Rep) {Q : Res20 → Nat → World → List Int → Vs → Prop} (hQ : Qk Q) {w : World} {g : Nat} {v : Value} {hs : List Int} {s : Vs} {S D : Nat → Prop} (o : Op20) (ino : Int) (hdd : Dst Rep w g v hs s S D)
 (hE : ∀ (args : Array Value) (w : World),(callFunc (deedF o.kind) args).run Tryz.prog w = .ok (.enter (deedF o.kind) args) w)
 (hC : ∀ u,Below w.heap.size w u → Dst Rep u g v hs s S D → Calls Tryz.prog (deedF o.kind) #[.pointer (some ⟨g,0,none⟩),o.val,.int .u32 ino] u (DoE Rep Q g v S D u)) :
 Calls Tryz.prog 15 #[.pointer (some ⟨g,0,none⟩),o.val,.int .u32 ino] w (DoE Rep Q g v S D w) := by
 have hlt := hV.lt hdd.rep
 have hsub := hV.sub hdd.rep
 have hg := hdd.dsk.blk.lt
 refine (do_calls ⟨g,0,none⟩ o ino w (fun r u' => ∃ (hs' : List Int) (s' : Vs) (S' D' : Nat → Prop),Dst Rep u' g v hs' s' S' D' ∧ Dstp S D S' D' g w u' ∧ Q r (w.heap.size + 2) u' hs' s' ∧ ¬ D' (w.heap.size + 1)) hE ?_ ?_).mono ?_
 ·intro u hb hsz
  refine (hC u hb (hdd.below hV hb)).mono ?_
  rintro e u' ⟨r,hs',s',S',D',rfl,h1,h2,h3⟩
  refine ⟨r,rfl,fun k hk1 hk2 => h2.chg.block k hk2 (fun h => ?_),hs',s',S',D',h1,?_,hQ.low h3 hsz,fun hd => ?_⟩
  ·rcases h with h | h
   ·have := hlt k (hsub k h)
    omega
   ·omega
  ·exact Dstp.trans ⟨Chg.of_below hb,Kept.of_below hb,Grow.refl _ _,Grow.refl _ _⟩ h2
  ·rcases h2.dep _ hd with h | h
   ·have := hlt _ h
    omega
   ·omega
 ·rintro r u u' ⟨hs',s',S',D',h1,h2,h3,h4⟩ hB hg5
  obtain ⟨z1,z2⟩ := Dst.stored (w0 := w) hV h1 hB hg5 h4 (by omega) (Nat.le_succ _) h2
  exact ⟨hs',s',S',D',z1,z2,hQ.keep h3 hg5 (by omega),h4⟩
 ·rintro e w' ⟨r,he,hs',s',S',D',h1,h2,h3,_⟩
  exact ⟨r,hs',s',S',D',he,h1,h2,hQ.low h3 (by omega)⟩
abbrev resN (er n : Int) : Res20 := ⟨er,n,none,0,0,none,0,0,0,0,0,0⟩
def QN (hs : List Int) (s : Vs) (er N : Int) (ps : List Wrt) (k m : Nat) (r : Res20) (b : Nat) (u : World) (hs' : List Int) (s' : Vs) : Prop := hs' = hs ∧ ∃ J,J = (if (goW s ps).2 = true then er else 21) ∧ r = resN J (if J = 0 then N else 0) ∧ Aft s s' ps k m
theorem qN {hs : List Int} {s : Vs} {er N : Int} {ps : List Wrt} {k m : Nat} : Qk (QN hs s er N ps k m) := ⟨fun h _ _ => h,fun h _ => h⟩
theorem of_ansO (hV : Stays Rep) {w : World} {g : Nat} {v : Value} {hs : List Int} {s : Vs} {S D : Nat → Prop} {er : Int} {ps : List Wrt} {k m : Nat} (hdd : Dst Rep w g v hs s S D) {e : Ending} {w' : World} (h : AnsO Rep v s er ps k m S D w e w') : DoE Rep (QN hs s er 0 ps k m) g v S D w e w' := by
 obtain ⟨s',S',D',he,hr,st,ha⟩ := h
 refine ⟨resN (if (goW s ps).2 = true then er else 21) 0,hs,s',S',D',he,(hdd.step hV hr st).1,(hdd.step hV hr st).2,rfl,_,rfl,by rw [ite_self],ha⟩
theorem of_ansN {w : World} {g : Nat} {v : Value} {hs : List Int} {s : Vs} {S D : Nat → Prop} {er N : Int} {ps : List Wrt} {k m : Nat} {e : Ending} {w' : World} (h : AnsN Rep g v hs s er N ps k m S D w e w') : DoE Rep (QN hs s er N ps k m) g v S D w e w' := by
 obtain ⟨J,s',S',D',hJ,he,hd,st,ha⟩ := h
 exact ⟨resN J (if J = 0 then N else 0),hs,s',S',D',he,hd,st,rfl,J,hJ,rfl,ha⟩
section
variable {w : World} {g : Nat} {v : Value} {hs : List Int} {s : Vs} {S D : Nat → Prop}
theorem do_create (hW0 : Wk Rep) (o : Op20) (ino : Int) (ho : o.kind = 4) (hdd : Dst Rep w g v hs s S D) (hl : Lim s) (h2 : s.rd.length ≤ 18000) (h3 : s.rg.length ≤ 900) (hx : Mxs w S) (hp : o.path.size ≤ 100000) (i0 : 0 ≤ ino) (i1 : ino ≤ 4294967295) :
 Calls Tryz.prog 15 #[.pointer (some ⟨g,0,none⟩),o.val,.int .u32 ino] w (DoE Rep (QN hs s (makV s.shown o.path 1 ino).1 0 (makV s.shown o.path 1 ino).2 41 0) g v S D w) := by
 refine do_at hW0.stays qN o ino hdd (by rw [ho]; exact fun args w => by kernel_rfl) (fun u hb hu => ?_)
 rw [ho]
 exact (create_deed hW0 o ino hu.dsk hu.rep hu.ng hl h2 h3 (hx.below hb) hp i0 i1).mono (fun _ _ h => of_ansO hW0.stays hu h)
def QO (s : Vs) (path : ByteArray) (x : Int × Int × List Int) (r : Res20) (b : Nat) (u : World) (hs' : List Int) (s' : Vs) : Prop := hs' = x.2.2 ∧ r = resN x.1 x.2.1 ∧ FindR s path s'
theorem do_open (hW0 : Wk Rep) (o : Op20) (ino : Int) (ho : o.kind = 6) (hdd : Dst Rep w g v hs s S D) (hl : Lim s) (h2 : s.rd.length ≤ 18000) (h3 : s.rg.length ≤ 900) (hx : Mxs w S) (hp : o.path.size ≤ 100000) :
 Calls Tryz.prog 15 #[.pointer (some ⟨g,0,none⟩),o.val,.int .u32 ino] w (DoE Rep (QO s o.path (opnV s.shown hs o.path)) g v S D w) := by
 refine do_at hW0.stays ⟨fun h _ _ => h,fun h _ => h⟩ o ino hdd (by rw [ho]; exact fun args w => by kernel_rfl) (fun u hb hu => ?_)
 rw [ho]
 refine (open_deed hW0 o ino hu hl h2 h3 (hx.below hb) hp).mono ?_
 rintro e u' ⟨s',S',D',he,hd,st,hf⟩
 exact ⟨resN _ _,_,s',S',D',he,hd,st,rfl,rfl,hf⟩
theorem do_write (hW0 : Wk Rep) (hLk : LookOk Rep) (hSt : SetOk Rep) (o : Op20) (ino : Int) (ho : o.kind = 9) (hdd : Dst Rep w g v hs s S D) (hl : Lim s) (h2 : s.rd.length ≤ 18000) (a0 : -9223372036854775808 ≤ o.frm) (a1 : o.frm ≤ 9223372036854775807) {xs : List Int} (hxs : Bs w o.da o.dn xs) (hc : o.dn ≤ o.dc) (hbig : o.dc ≤ 9223372036854775807) (hA : 0 < o.dn → ∀ b of,o.da = some ⟨b,of,none⟩ → ¬ S b ∧ b < w.heap.size) (hv : V64 s.shown (inoD hs o.hn).1) :
 Calls Tryz.prog 15 #[.pointer (some ⟨g,0,none⟩),o.val,.int .u32 ino] w (DoE Rep (QN hs s (wrtD s.shown hs o.hn o.frm xs).1 o.dn (wrtD s.shown hs o.hn o.frm xs).2 1 0) g v S D w) := by
 refine do_at hW0.stays qN o ino hdd (by rw [ho]; exact fun args w => by kernel_rfl) (fun u hb hu => ?_)
 rw [ho]
 exact (write_deed hW0 hLk hSt o ino hu hl h2 a0 a1 (hxs.below hb) hc hbig (fun h b of e => ⟨(hA h b of e).1,Nat.lt_of_lt_of_le (hA h b of e).2 hb.size⟩) hv).mono (fun _ _ h => of_ansN h)
def QR (L : List Pr) (hs : List Int) (hn frm n : Int) (s : Vs) (r : Res20) (b : Nat) (u : World) (hs' : List Int) (s' : Vs) : Prop := hs' = hs ∧ (((inoD hs hn).2 = 0 ∧ s' = s.read (kI (inoD hs hn).1) ∧ (∃ (a : Option Addr) (m c : Nat),r = ⟨(reaV L (inoD hs hn).1 frm n).2,(m : Int),a,m,c,none,0,0,0,0,0,0⟩ ∧ So u8E 5 u b (.slice a m c) m (reaV L (inoD hs hn).1 frm n).1)) ∨ ((inoD hs hn).2 ≠ 0 ∧ r = resN 16 0 ∧ Aft s s' [] 1 0))
theorem qR {L : List Pr} {hs : List Int} {hn frm n : Int} {s : Vs} : Qk (QR L hs hn frm n s) := by
 refine ⟨?_,?_⟩
 ·rintro r b u u' hs' s' c ⟨h1,⟨h2,h3,a,m,cc,h4,h5⟩ | h2⟩ hg hlt
  ·refine ⟨h1,.inl ⟨h2,h3,a,m,cc,h4,So.grown h5 hg ?_⟩⟩
   cases hb : (Value.slice a m cc).ownBlock with
   | none => exact .inl rfl
   | some q =>
     refine .inr (fun e => ?_)
     have := (h5.lt hb).1
     injection e with e
     omega
  ·exact ⟨h1,.inr h2⟩
 ·rintro r b b' u hs' s' ⟨h1,⟨h2,h3,a,m,cc,h4,h5⟩ | h2⟩ hlt
  ·exact ⟨h1,.inl ⟨h2,h3,a,m,cc,h4,So.lower h5 hlt⟩⟩
  ·exact ⟨h1,.inr h2⟩
theorem do_read (hW0 : Wk Rep) (hLk : LookOk Rep) (o : Op20) (ino : Int) (ho : o.kind = 8) (hdd : Dst Rep w g v hs s S D) (hl : Lim s) (h2 : s.rd.length ≤ 18000) (a0 : -9223372036854775808 ≤ o.frm) (a1 : o.frm ≤ 9223372036854775807) (n0 : -9223372036854775808 ≤ o.n) (n1 : o.n ≤ 9223372036854775807) (hv : V64 s.shown (inoD hs o.hn).1) :
 Calls Tryz.prog 15 #[.pointer (some ⟨g,0,none⟩),o.val,.int .u32 ino] w (DoE Rep (QR s.shown hs o.hn o.frm o.n s) g v S D w) := by
 refine do_at hW0.stays qR o ino hdd (by rw [ho]; exact fun args w => by kernel_rfl) (fun u hb hu => ?_)
 rw [ho]
 refine (read_deed hW0 hLk o ino hu hl h2 a0 a1 n0 n1 hv).mono ?_
 intro e u' h
 by_cases h0 : (inoD hs o.hn).2 = 0
 ·rw [if_pos h0] at h
  obtain ⟨a,m,c,S',D',he,ho,hd,st⟩ := h
  exact ⟨⟨_,(m : Int),a,m,c,none,0,0,0,0,0,0⟩,hs,_,S',D',he,hd,st,rfl,.inl ⟨h0,rfl,a,m,c,rfl,ho⟩⟩
 ·rw [if_neg h0] at h
  obtain ⟨J,s',S',D',hJ,he,hd,st,ha⟩ := h
  rw [goW_nil] at hJ
  have hJ2 : J = 16 := hJ
  subst hJ2
  exact ⟨resN 16 0,hs,s',S',D',he,hd,st,rfl,.inr ⟨h0,rfl,ha⟩⟩
end
end Go.Proofs.YtobbofdnhbgioaaGreatDoor.OpsT
namespace Go.Proofs.YtobbofdnhbgioaaGreatDoor.OpsFm
open Go.RowKit
open Byte KeysM ViewM NodeM WalkM WalkF WalkKm DirsV DirsKc FileM FileV OpsI OpsK OpsS OpsW
def pa : ByteArray := ⟨#[47,97]⟩
def h0 : List Int := [0,0,0,0,0,0,0,0,0,0,0,0,0,0,0,0]
def h1 : List Int := [2,0,0,0,0,0,0,0,0,0,0,0,0,0,0,0]
def s0 : Vs := ⟨[],[],[],[]⟩
def s1 : Vs := (goW s0 (makV s0.shown pa 1 2).2).1
theorem f1 : (makV s0.shown pa 1 2).1 = 0 ∧ (goW s0 (makV s0.shown pa 1 2).2).2 = true := by decide +kernel
theorem f2 : opnV s1.shown h0 pa = (0,0,h1) := by decide +kernel
theorem f3 : inoD h1 0 = (2,0) := by decide +kernel
def s2 : Vs := (goW s1 (wriV s1.shown 2 0 [120,121]).2).1
theorem f4 : (wriV s1.shown 2 0 [120,121]).1 = 0 ∧ (goW s1 (wriV s1.shown 2 0 [120,121]).2).2 = true := by decide +kernel
theorem f5 : reaV s2.shown 2 0 9 = ([120,121],0) := by decide +kernel
end Go.Proofs.YtobbofdnhbgioaaGreatDoor.OpsFm