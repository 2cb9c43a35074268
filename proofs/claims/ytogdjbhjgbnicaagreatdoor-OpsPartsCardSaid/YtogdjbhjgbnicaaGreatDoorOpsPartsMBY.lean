import Derived.Test.YtogdjbhjgbnicaaGreatDoorSq
import Derived.Test.YtogdjbhjgbnicaaGreatDoorOpsPartsMBX
import Derived.Test.YtogdjbhjgbnicaaGreatDoorOpsPartsMBV
import Derived.Test.YtogdjbhjgbnicaaGreatDoorOpsPartsMBW
import Derived.Test.YtogdjbhjgbnicaaGreatDoorOpsPartsMAQ
import Derived.Deep.DeepCutAuto
import Derived.Deep.CutBlock
set_option maxHeartbeats 16000000
set_option linter.unusedVariables false
set_option linter.unusedSimpArgs false
set_option maxRecDepth 100000
namespace Go.Proofs.YtogdjbhjgbnicaaGreatDoor.FileKe
open Go.RowKit
open Byte PackM KeysM KeysL TreeR ViewM ViewKm NodeM NodeL NodeK WalkM WalkF WalkKm DirsV FileM FileV FileN Lst Chg TreeL ViewL WalkL WalkV Vat DirsK DirsKa Cpy FileKa FileKb FileKd
open TreeM hiding cutL
open Own hiding keeps
variable {Rep : RepT}
def V64 (L : List Pr) (ino : Int) : Prop := ∀ q,0 ≤ q → q ≤ 65535 → (valL ((getL (kD ino q) L).map (·.value))).length ≤ 64
theorem v64_done {L : List Pr} (hr : Rise L) {ino : Int} (h : V64 L ino) {p : Pr} (hp : p.value.size ≤ 64) : V64 (doneW L p) ino := fun q q0 q1 => by
 have e : (getL (kD ino q) (doneW L p)).map (·.value) = DirsX.setG (DirsX.gk L) p (kD ino q) := congrFun (DirsX.gk_done hr p) _
 rw [e]
 unfold DirsX.setG
 split
 ·split
  ·exact Nat.zero_le _
  ·show (txt p.value).length ≤ 64
   rw [txt_len]; exact hp
 ·exact h q q0 q1
theorem v64_write {s : Vs} (ho : s.Ok) {ino : Int} (h : V64 s.shown ino) {p : Pr} (hp : p.value.size ≤ 64) : V64 (s.write p).shown ino := by
 unfold Vs.write
 split
 ·exact h
 ·show V64 (shownL s.base (writeW s.base s.wr p)) ino
  rw [shown_write ho.base ho.wr]
  exact v64_done (rise_shown ho.base _) h hp
theorem go_one (s : Vs) (p : Wrt) : (goW s [p]).1 = s.write (p s.shown) := by
 cases hf : fullW s.wr (p s.shown) with
 | true => rw [goW_full hf,write_room hf]
 | false => rw [goW_room hf]; rfl
theorem aft_one {s s' : Vs} {p q : Wrt} {k m : Nat} (e : p s.shown = q s.shown) (h : Aft s s' [p] k m) : Aft s s' [q] k m := by
 have : goW s [p] = goW s [q] := by unfold goW; rw [e]
 exact ⟨by rw [← this]; exact h.sm,h.rd,h.rg⟩
theorem one_same {s : Vs} {p q : Wrt} (e : p s.shown = q s.shown) : (goW s [p]).2 = (goW s [q]).2 := by rw [one_ok,one_ok,e]
theorem bs_stp {w w' : World} {S : Nat → Prop} {A : Option Addr} {n : Nat} {xs : List Int} (h : Bs w A n xs) (k : Chg S w w') (hA : ∀ b o,A = some ⟨b,o,none⟩ → ¬ S b) : Bs w' A n xs := by
 refine ⟨h.1,h.2.1,fun i hi => ?_⟩
 obtain ⟨b,o,e,hlt,hc⟩ := h.2.2 i hi
 exact ⟨b,o,e,Nat.lt_of_lt_of_le hlt k.size,k.cell (p := ⟨b,o + i,none⟩) hc (hA b o e)⟩
theorem bs_back {w : World} {b o n : Nat} {xs : List Int} (h : Bs w (some ⟨b,o,none⟩) n xs) (k : Nat) (hk : k ≤ n) : Bs w (some ⟨b,o + k,none⟩) (n - k) (xs.drop k) := by
 refine ⟨by rw [List.length_drop,h.1],fun x hx => h.2.1 x (List.mem_of_mem_drop hx),fun i hi => ?_⟩
 obtain ⟨b',o',e,hlt,hc⟩ := h.2.2 (k + i) (by omega)
 injection e with e
 injection e with e1 e2
 subst e1 e2
 exact ⟨b,o + k,rfl,hlt,by rw [Nat.add_assoc,hc,drop_get]⟩
def sumP (P : List (Int × Int × Int)) : Nat := (P.map fun p => p.2.2.toNat).sum
theorem sum_cuts : ∀ (f : Nat) {a n : Int},0 ≤ a → n ≤ f → sumP (cuts f a n) = n.toNat
 | 0,a,n,_,h => by rw [show n.toNat = 0 by omega]; rfl
 | f + 1,a,n,ha,h => by
   unfold cuts
   split
   ·rw [show n.toNat = 0 by omega]; rfl
   ·have := sum_cuts f (a := a + min n (64 - a % 64)) (n := n - min n (64 - a % 64)) (by omega) (by omega)
    unfold sumP at this ⊢
    rw [List.map_cons,List.sum_cons,this]
    dsimp only
    omega
theorem sum_cut {a n : Int} (a0 : 0 ≤ a) (h : a + n ≤ 4096) : sumP (cutL a n) = n.toNat := by
 unfold cutL
 split
 ·rw [show n.toNat = 0 by omega]; rfl
 ·exact sum_cuts _ a0 (by omega)
theorem sum_drop {P : List (Int × Int × Int)} {k : Nat} {p : Int × Int × Int} (h : P[k]? = some p) : sumP (P.drop k) = p.2.2.toNat + sumP (P.drop (k + 1)) := by
 obtain ⟨hk,he⟩ := List.getElem?_eq_some_iff.1 h
 rw [List.drop_eq_getElem_cons hk,he]
 unfold sumP
 rw [List.map_cons,List.sum_cons]
theorem wrPs_next {ino : Int} {xs : List Int} {P : List (Int × Int × Int)} {k : Nat} {p : Int × Int × Int} (h : P[k]? = some p) : wrPs ino xs (P.drop k) = wrP ino p (xs.take p.2.2.toNat) :: wrPs ino (xs.drop p.2.2.toNat) (P.drop (k + 1)) := by
 obtain ⟨hk,he⟩ := List.getElem?_eq_some_iff.1 h
 rw [List.drop_eq_getElem_cons hk,he]
 rfl
structure WrI (s s' : Vs) (ino : Int) (ys xs : List Int) (P Q : List (Int × Int × Int)) (don : List Wrt) : Prop where
 aft : Aft s s' don 0 0
 ok : (goW s don).2 = true
 all : don ++ wrPs ino ys Q = wrPs ino xs P
 v64 : V64 s'.shown ino
 len : ys.length = sumP Q
theorem WrI.lim {s s' : Vs} {ino : Int} {ys xs : List Int} {P Q : List (Int × Int × Int)} {don : List Wrt} (h : WrI s s' ino ys xs P Q don) (hl : Lim s) : Lim s' := lim_aft h.aft hl (by have := hl.rd; omega) (by have := hl.rg; omega)
theorem put_small (ino which : Int) (b : List Int) (L : List Pr) (h : b.length ≤ 64) : (putP ino which b L).value.size ≤ 64 := by
 show (str (cut0 b)).size ≤ 64
 rw [str_size]
 have := cut0_len b
 omega
theorem WrI.next {s s1 s2 : Vs} {ino : Int} {ys xs : List Int} {P : List (Int × Int × Int)} {k : Nat} {don : List Wrt} {p : Int × Int × Int} {b : List Int} (h : WrI s s1 ino ys xs P (P.drop k) don) (ho : s1.Ok) (hp : P[k]? = some p) (hb : setB (getB s1.shown ino p.1) (ys.take p.2.2.toNat) p.2.1.toNat = b) (hlen : b.length ≤ 64) (ha : Aft s1 s2 [putP ino p.1 b] 0 0) (hg : (goW s1 [putP ino p.1 b]).2 = true) :
 ∃ don',WrI s s2 ino (ys.drop p.2.2.toNat) xs P (P.drop (k + 1)) don' := by
 have e : putP ino p.1 b s1.shown = wrP ino p (ys.take p.2.2.toNat) s1.shown := by unfold wrP; rw [hb]
 have h1 := h.aft.app h.ok (aft_one e ha)
 refine ⟨don ++ [wrP ino p (ys.take p.2.2.toNat)],h1.1,by rw [h1.2,← one_same e]; exact hg,?_,?_,?_⟩
 ·rw [List.append_assoc,← h.all,wrPs_next hp]; rfl
 ·rw [ha.sm.shown,go_one]
  exact v64_write ho h.v64 (put_small _ _ _ _ hlen)
 ·rw [List.length_drop,h.len,sum_drop hp]; omega
theorem WrI.stop {s s1 s2 : Vs} {ino : Int} {ys xs : List Int} {P : List (Int × Int × Int)} {k : Nat} {don : List Wrt} {p : Int × Int × Int} {b : List Int} (h : WrI s s1 ino ys xs P (P.drop k) don) (hp : P[k]? = some p) (hb : setB (getB s1.shown ino p.1) (ys.take p.2.2.toNat) p.2.1.toNat = b) (ha : Aft s1 s2 [putP ino p.1 b] 0 0) (hg : (goW s1 [putP ino p.1 b]).2 = false) :
 Aft s s2 (wrPs ino xs P) 0 0 ∧ (goW s (wrPs ino xs P)).2 = false := by
 have e : putP ino p.1 b s1.shown = wrP ino p (ys.take p.2.2.toNat) s1.shown := by unfold wrP; rw [hb]
 have h1 := h.aft.app h.ok (aft_one e ha)
 have h2 : (goW s (don ++ [wrP ino p (ys.take p.2.2.toNat)])).2 = false := by rw [h1.2,← one_same e]; exact hg
 have h3 := h1.1.stop (qs := wrPs ino (ys.drop p.2.2.toNat) (P.drop (k + 1))) h2
 have e4 : don ++ [wrP ino p (ys.take p.2.2.toNat)] ++ wrPs ino (ys.drop p.2.2.toNat) (P.drop (k + 1)) = wrPs ino xs P := by
  rw [← h.all,wrPs_next hp,List.append_assoc]; rfl
 rw [e4] at h3
 exact h3
theorem WrI.done {s s1 : Vs} {ino : Int} {ys xs : List Int} {P : List (Int × Int × Int)} {k : Nat} {don : List Wrt} (h : WrI s s1 ino ys xs P (P.drop k) don) (hk : P.length ≤ k) : Aft s s1 (wrPs ino xs P) 0 0 ∧ (goW s (wrPs ino xs P)).2 = true := by
 have e : don = wrPs ino xs P := by
  have := h.all
  rw [List.drop_eq_nil_of_le hk] at this
  simpa [wrPs] using this
 rw [← e]
 exact ⟨h.aft,h.ok⟩
theorem slice64l (w : World) (g f : Nat) (h : f ≤ 63) : (Instr.sliceAt 184 (.pointer (some ⟨g,0,none⟩)) (some (.int .i64 (f : Int))) none none).run Tryz.prog w = .ok (.slice (some ⟨g,f,none⟩) (64 - f) (64 - f)) w := by
 have ht : Tryz.prog.underlying 184 = some (.array (Tryz.prog.arrayLen 184) (Tryz.prog.elem 184)) := by kernel_rfl
 have e64 : Tryz.prog.arrayLen 184 = 64 := by kernel_rfl
 have ee : Tryz.prog.elem 184 = 5 := by kernel_rfl
 rw [run_sliceAt_array_l w 184 ⟨g,0,none⟩ ht .i64 (f : Int) (by omega) (by rw [e64]; omega),ee,Tryz.sizeOf5,e64]
 rw [Int.toNat_natCast]
 unfold slicedAt
 show Result.ok (Value.slice (some (if 64 = f then (⟨g,0,none⟩ : Addr) else (⟨g,0,none⟩ : Addr).add (f * 1))) (64 - f) (64 - f)) w = _
 rw [if_neg (by omega),Nat.mul_one]
 simp [Addr.add]
 exact fun h => h.symm
theorem slice64a (w : World) (g : Nat) : (Instr.sliceAt 184 (.pointer (some ⟨g,0,none⟩)) none none none).run Tryz.prog w = .ok (.slice (some ⟨g,0,none⟩) 64 64) w := by
 have ht : Tryz.prog.underlying 184 = some (.array (Tryz.prog.arrayLen 184) (Tryz.prog.elem 184)) := by kernel_rfl
 have e64 : Tryz.prog.arrayLen 184 = 64 := by kernel_rfl
 have ee : Tryz.prog.elem 184 = 5 := by kernel_rfl
 rw [run_sliceAt_array_all w 184 ⟨g,0,none⟩ ht,ee,Tryz.sizeOf5,e64]
 rfl
theorem slice_bh (w : World) (A : Option Addr) (m d q : Nat) (h : q ≤ d) : (Instr.sliceAt 39 (.slice A m d) none (some (.int .i64 (q : Int))) none).run Tryz.prog w = .ok (.slice A q d) w := by
 have ht : Tryz.prog.underlying 39 = some (.slice (Tryz.prog.elem 39)) := by kernel_rfl
 have ee : Tryz.prog.elem 39 = 5 := by kernel_rfl
 rw [run_sliceAt_slice w 39 _ _ _ _ ht,run_slice_h w 39 A m d ht .i64 (q : Int) (by omega) (by omega),ee,Tryz.sizeOf5,Int.toNat_natCast]
 cases A <;> simp [sliced,Addr.add]
theorem slice_bl (w : World) (b o m d q : Nat) (h : q ≤ m) (h2 : m ≤ d) : ∃ A,(Instr.sliceAt 39 (.slice (some ⟨b,o,none⟩) m d) (some (.int .i64 (q : Int))) none none).run Tryz.prog w = .ok (.slice A (m - q) (d - q)) w ∧ (A = some ⟨b,o + q,none⟩ ∨ (m = q ∧ A = some ⟨b,o,none⟩)) := by
 have ht : Tryz.prog.underlying 39 = some (.slice (Tryz.prog.elem 39)) := by kernel_rfl
 have ee : Tryz.prog.elem 39 = 5 := by kernel_rfl
 rw [run_sliceAt_slice w 39 _ _ _ _ ht,run_slice_l w 39 _ m d ht .i64 (q : Int) (by omega) (by omega),ee,Tryz.sizeOf5,Int.toNat_natCast]
 by_cases hd : d = q
 ·exact ⟨some ⟨b,o,none⟩,by simp [sliced,hd],.inr ⟨by omega,rfl⟩⟩
 ·refine ⟨some ⟨b,o + q,none⟩,?_,.inl rfl⟩
  simp [sliced,Addr.add,hd]
  try omega
theorem blk_bs {w : World} {g : Nat} {l : List Int} {T : TypeId} (h : Blk w g (u8A l) T) (hb : ∀ x ∈ l,0 ≤ x ∧ x ≤ 255) : Bs w (some ⟨g,0,none⟩) l.length l := by
 refine ⟨rfl,hb,fun k hk => ⟨g,0,rfl,h.lt,?_⟩⟩
 rw [Nat.zero_add,h.cell k]
 unfold u8A
 rw [List.getElem?_toArray,List.getElem?_map,List.getElem?_eq_getElem hk,List.getD_eq_getElem?_getD,List.getElem?_eq_getElem hk]
 rfl
theorem getB_bd (L : List Pr) (ino q : Int) : ∀ x ∈ getB L ino q,0 ≤ x ∧ x ≤ 255 := fun x hx => by
 have h1 : ∀ x ∈ valL ((getL (kD ino q) L).map (·.value)),0 ≤ x ∧ x ≤ 255 := by
  cases (getL (kD ino q) L).map (·.value) with
  | none => intro x hx; cases hx
  | some t => exact txt_bd t
 unfold getB pad at hx
 rcases List.mem_append.1 (List.mem_of_mem_take hx) with h | h
 ·exact h1 x h
 ·rw [List.eq_of_mem_replicate h]; exact ⟨by decide,by decide⟩
theorem setb_bd {l xs : List Int} {f : Nat} (h : ∀ x ∈ l,0 ≤ x ∧ x ≤ 255) (h2 : ∀ x ∈ xs,0 ≤ x ∧ x ≤ 255) : ∀ x ∈ setB l xs f,0 ≤ x ∧ x ≤ 255 := fun x hx => by
 unfold setB at hx
 rcases List.mem_append.1 hx with h3 | h3
 ·exact h x (List.mem_of_mem_take h3)
 ·rcases List.mem_append.1 h3 with h4 | h4
  ·exact h2 x h4
  ·exact h x (List.mem_of_mem_drop h4)
theorem off_of {w w1 : World} {S D M S' D' : Nat → Prop} {v : Value} {s1 : Vs} {A B : Option Addr} (p : At Rep w S D M w1 v s1 S' D') (hA : ∀ b o,A = some ⟨b,o,none⟩ → ¬ S b ∧ b < w.heap.size) (hB : ∀ b o,B = some ⟨b,o,none⟩ → ∃ o',A = some ⟨b,o',none⟩) : ∀ b o,B = some ⟨b,o,none⟩ → ¬ S' b ∧ b < w.heap.size := fun b o e => by
 obtain ⟨o',e'⟩ := hB b o e
 have h := hA b o' e'
 refine ⟨fun hs => ?_,h.2⟩
 rcases p.st.own b hs with q | q
 ·exact h.1 q
 ·omega
theorem so_off {α : Type} {e : Enc α} {T : TypeId} {w : World} {base n g : Nat} {u : Value} {L : List α} (h : So e T w base u n L) (hg : w.heap.size ≤ g) : u.ownBlock = none ∨ u.ownBlock ≠ some g := by
 cases hv : u.ownBlock with
 | none => exact .inl rfl
 | some k => exact .inr (fun e => by injection e with e; have := (h.lt hv).2; omega)
theorem bs_grown {w w' : World} {A : Option Addr} {n g : Nat} {xs : List Int} (h : Bs w A n xs) (k : w.grownBy w' (some g)) (hA : ∀ b o,A = some ⟨b,o,none⟩ → b ≠ g) : Bs w' A n xs :=
 bs_stp (S := fun b => b = g) h (Chg.of_grown k (fun i e => .inl (by injection e with e; exact e.symm))) hA
theorem write_calls (hW : Wk Rep) (hK : LookOk Rep) (hT : SetOk Rep) {w : World} {v : Value} {s : Vs} {S D : Nat → Prop} (ino a : Int) {A : Option Addr} {n c : Nat} {xs : List Int} (hr : Rep w v s S D) (hl : Lim s) (h0 : 0 ≤ ino) (h1 : ino ≤ 4294967295) (a0 : 0 ≤ a) (an : a + n ≤ 4096) (hx : Bs w A n xs) (hc : n ≤ c) (hbig : c ≤ 9223372036854775807) (hA : ∀ b o,A = some ⟨b,o,none⟩ → ¬ S b ∧ b < w.heap.size) (hv : V64 s.shown ino) :
 Calls Tryz.prog 108 #[v,.int .u32 ino,.int .i64 a,.slice A n c] w (Wrote Rep v s (wrPs ino xs (cutL a n)) 0 0 S D w) := by
 have HG := hQ_ (fun (q : Int) (w1 : World) (s1 : Vs) (S1 D1 : Nat → Prop) (hr1 : Rep w1 v s1 S1 D1) (hl1 : Lim s1) (hv1 : V64 s1.shown ino) (b0 : 0 ≤ q) (b1 : q ≤ 63) => get_calls hW hK ino q hr1 hl1 h0 h1 b0 (by omega) (hv1 q b0 (by omega)))
 have HPT := hQ_ (fun (q : Int) (w1 : World) (s1 : Vs) (S1 D1 : Nat → Prop) (g : Nat) (ys : List Int) (hr1 : Rep w1 v s1 S1 D1) (hl1 : Lim s1) (b0 : 0 ≤ q) (b1 : q ≤ 63) (hx : Bs w1 (some ⟨g,0,none⟩) 64 ys) => put_calls (c := 64) hW hT ino q hr1 hl1 h0 h1 b0 (by omega) hx (Nat.le_refl _) (by omega) (by omega))
 have HC := hQ_ (cut_ok a n w (by omega) (by omega) (by omega) (by omega))
 unfold CutE at HC
 have HS := hQ_ hW.stays
 have A0 := hQ_ (At.start hr)
 have HPO : Hid (∀ p ∈ cutL a n,PcOk p) := hQ_ cutL_ok
 have HI0 : Hid (WrI s s ino xs xs (cutL a n) ((cutL a n).drop 0) []) := hQ_ ⟨Aft.nil (Sm.refl s) (Nat.le_refl _) (Nat.le_refl _),rfl,rfl,hv,by rw [List.drop_zero,sum_cut a0 an,hx.1]; omega⟩
 have HLI := hQ_ hl
 have HX := hQ_ hx
 have HA := hQ_ hA
 have HPL := hQ_ (cutL_len a n)
 generalize cutL a n = P at *
 clear hr hl hW hK hT hv h0 h1 a0 an hx hA
 go_enter Tryz.func108,Tryz.ntmps108
 go_wp2_with fail
 refine HC.out.mono ?_
 rintro e w1 ⟨PA,pn,pc,rfl,hso,hb1⟩
 have HP := hQ_ hso
 clear hso
 have HPA : Hid (∀ b o,PA = some ⟨b,o,none⟩ → w.heap.size ≤ b ∧ b < w1.heap.size) := hQ_ (fun b o e => HP.out.lt (by rw [e]; rfl))
 have A2 := hQ_ (A0.out.owns HS.out hb1 (Q := fun b => ∃ o,PA = some ⟨b,o,none⟩) (fun b ⟨o,e⟩ => HPA.out b o e))
 have HX1 := hQ_ (HX.out.below hb1)
 clear hb1
 go_wp2_with fail
 go_loopw [3,20] (fun u i wr => ∃ (k m d : Nat) (B : Option Addr) (ys : List Int) (s1 : Vs) (S' D' : Nat → Prop) (don : List Wrt),i = .int .i64 k ∧ k ≤ pn ∧ u = .slice B m d ∧ m ≤ d ∧ d ≤ 9223372036854775807 ∧ Hid (Bs wr B m ys) ∧ Hid (∀ b o,B = some ⟨b,o,none⟩ → ∃ o',A = some ⟨b,o',none⟩) ∧ Hid (At Rep w S D (fun b => ∃ o,PA = some ⟨b,o,none⟩) wr v s1 S' D') ∧ Hid (So trE 183 wr w.heap.size (.slice PA pn pc) pn P) ∧ Hid (WrI s s1 ino ys xs P (P.drop k) don)) (fun _ i _ => pn - (intOf i).toNat)
 case atStart => exact ⟨0,n,c,A,xs,s,S,D,[],rfl,Nat.zero_le _,rfl,hc,hbig,HX1,hQ_ (fun b o e => ⟨o,e⟩),hQ_ (A2.out.less (fun b h => .inr h)),HP,HI0⟩
 case round =>
  obtain ⟨k,m,d,B,ys,s1,S',D',don,rfl,hk,rfl,hmd,hdb,HY,HBA,HAT,HL,HI⟩ := hrel
  by_cases hlt : k < pn
  ·obtain ⟨p,g,o,hp,rfl,hg,hcl⟩ := HL.out.sl.get k hlt
   have hok := HPO.out p (List.mem_of_getElem? hp)
   have HPK := hQ_ hp
   have hsd := sum_drop hp
   have hln := HI.out.len
   have hym := HY.out.1
   obtain ⟨p1,p2,p3⟩ := p
   obtain ⟨o1,o2,o3,o4,o5⟩ := hok
   dsimp only at o1 o2 o3 o4 o5 hsd
   obtain ⟨f,rfl⟩ : ∃ f : Nat,p2 = (f : Int) := ⟨p2.toNat,by omega⟩
   obtain ⟨q,rfl⟩ : ∃ q : Nat,p3 = (q : Int) := ⟨p3.toNat,by omega⟩
   have hqm : q ≤ m := by rw [← hym,hln,hsd]; omega
   obtain ⟨c1,c2,c3⟩ := tr_cells hcl
   dsimp only at c1 c2 c3
   go_wp2_with ((with_reducible refine pick (some 23) ?_); refine wpList_load_mid rfl 183 _ rfl g (o + k * 3) rfl [.int .i64 p1,.int .i64 (f : Int),.int .i64 (q : Int)] _ hcl Tryz.underlying183 rfl info3 ?_)
   have Z := Blk.new_ wr #[.int .i64 p1,.int .i64 (f : Int),.int .i64 (q : Int)] 183
   have z1 : _ = some (Value.int .i64 p1) := Z.cell 0
   have z2 : _ = some (Value.int .i64 (f : Int)) := Z.cell 1
   have z3 : _ = some (Value.int .i64 (q : Int)) := Z.cell 2
   have hb2 : Below wr.heap.size wr (wr.alloc (.cells #[.int .i64 p1,.int .i64 (f : Int),.int .i64 (q : Int)] 183)).drew := (bW_).drew
   have A3 := hQ_ (HAT.out.below HS.out hb2)
   have Y3 := hQ_ (HY.out.below hb2)
   have L3 := hQ_ (HL.out.below hb2)
   have G3 := hQ_ (HG.out p1 _ _ _ _ A3.out.rep (HI.out.lim HLI.out) HI.out.v64 o1 o2)
   clear hcl c1 c2 c3 hb2 hp hsd hln hym
   go_region
   clear z1 z2 z3 Z
   go_wp2_with fail
   refine G3.out.mono ?_
   rintro e w4 ⟨S4,D4,rfl,hr4,st4⟩
   obtain ⟨bb,bo,rfl,hbb,_⟩ := Y3.out.2.2 0 (by omega)
   have OF := hQ_ (off_of HAT.out HA.out HBA.out)
   have A4 := hQ_ (A3.out.step HS.out hr4 st4)
   have Y4 := hQ_ (bs_stp Y3.out st4.chg (fun b o e => (OF.out b o e).1))
   have L4 := hQ_ (so_chg L3.out st4.chg (fun b hb => by cases hb; exact A3.out.apart HS.out ⟨o,rfl⟩))
   clear hr4 st4 hbb
   unfold BlkV
   have hgl := getB_len s1.shown ino p1
   have hgb := getB_bd s1.shown ino p1
   have HPC : Hid (setB (getB s1.shown ino p1) (ys.take q) f = sp_ (getB s1.shown ino p1) (ys.take q) f) := hQ_ rfl
   have HSL : Hid ((sp_ (getB s1.shown ino p1) (ys.take q) f).length = 64) := hQ_ (by
    rw [← HPC.out,setB_len _ _ _ (by rw [List.length_take,hgl]; omega),hgl])
   have HSB : Hid (∀ x ∈ sp_ (getB s1.shown ino p1) (ys.take q) f,0 ≤ x ∧ x ≤ 255) := hQ_ (by rw [← HPC.out]; exact setb_bd hgb (fun x hx => Y4.out.2.1 x (List.mem_of_mem_take hx)))
   have HNX := hQ_ (fun (s2 : Vs) (b : List Int) (hb : setB (getB s1.shown ino p1) (ys.take q) f = b) (hlen : b.length ≤ 64) (ha : Aft s1 s2 [putP ino p1 b] 0 0) (hg : (goW s1 [putP ino p1 b]).2 = true) => HI.out.next (HS.out.ok A4.out.rep) HPK.out hb hlen ha hg)
   have HST := hQ_ (fun (s2 : Vs) (b : List Int) (hb : setB (getB s1.shown ino p1) (ys.take q) f = b) (ha : Aft s1 s2 [putP ino p1 b] 0 0) (hg : (goW s1 [putP ino p1 b]).2 = false) => HI.out.stop HPK.out hb ha hg)
   generalize getB s1.shown ino p1 = l at *
   have hbz := bN_ w4 (.cells Z64 184)
   have R5 : Hid (Blk (w4.alloc (.cells Z64 184)) w4.heap.size (u8A (List.replicate 64 0)) 184) := hQ_ (Blk.new_ w4 Z64 _)
   go_wp2_with ((with_reducible refine pick none ?_); refine store_blk rfl 184 _ _ rfl w4.heap.size (u8A l) rfl rfl 184 _ R5.out (by rw [u8A_size,hgl]; exact info64) (by rw [u8A_size,u8A_size,hgl,List.length_replicate]) (u8A_all _) ?_; intro w5 hk5 hg5)
   have HB5 : Below w4.heap.size w4 w5 := hbz.grown hg5 hbz.size (fun k hk => by injection hk with hk; omega)
   have hz5 : w4.heap.size < w5.heap.size := hk5.lt
   have A5 := hQ_ (A4.out.own HS.out HB5 (Nat.le_refl w4.heap.size) hz5)
   have Y5 := hQ_ (Y4.out.below HB5)
   have L5 := hQ_ (L4.out.below HB5)
   have K5 := hQ_ hk5
   have hz4 := A4.out.size
   clear hgb
   have K5d := hQ_ K5.out.drew
   have Y5d := hQ_ (Y5.out.below ((Below.refl _ _).drew))
   have A5d := hQ_ (A5.out.below HS.out ((Below.refl _ _).drew))
   have L5d := hQ_ (L5.out.below ((Below.refl _ _).drew))
   refine wp_region_still_tail 5 (by kernel_rfl) (by kernel_rfl) ?_
   change wpStill _ _ w5.drew (fun a' => wpList _ _ _ _ a' w5.drew) _ _
   obtain ⟨wd,hwd⟩ : ∃ wd,w5.drew = wd := ⟨_,rfl⟩
   rw [hwd] at K5d Y5d A5d L5d ⊢
   simp only [List.take_succ_cons,List.take_zero,List.drop_succ_cons,List.drop_zero]
   refine sr_move _ rfl (by kernel_rfl) (.int .i64 (f : Int)) rfl ?_; simp only [pZ_]
   refine sr_slice _ _ _ _ _ rfl (by kernel_rfl) _ (slice64l wd w4.heap.size f (by omega)) ?_; simp only [pZ_]
   refine sr_move _ rfl (by kernel_rfl) (.slice (some ⟨bb,bo,none⟩) m d) rfl ?_; simp only [pZ_]
   refine sr_move _ rfl (by kernel_rfl) (.int .i64 (q : Int)) rfl ?_; simp only [pZ_]
   refine sr_slice _ _ _ _ _ rfl (by kernel_rfl) _ (slice_bh wd _ m d q (by omega)) ?_; simp only [pZ_]
   refine wpStill_nil ?_
   have hzd : w4.heap.size < wd.heap.size := K5d.out.lt
   have HSRC : ∀ (j : Nat) (x : Int),(ys.take q)[j]? = some x → wd.cell? ((⟨bb,bo,none⟩ : Addr).add j) = some (.int .u8 x) := fun j x hx => by
    have hj : j < q := by
     have := (List.getElem?_eq_some_iff.1 hx).1
     rw [List.length_take] at this
     omega
    have h1 := Y5d.out.at_ j (by omega)
    rw [List.getElem?_take,if_pos hj] at hx
    rw [List.getD_eq_getElem?_getD,hx] at h1
    unfold Addr.add
    by_cases h0 : j = 0
    ·subst h0; simpa using h1
    ·simpa [h0] using h1
   have hyl := Y5d.out.1
   refine wpList_copy_row rfl _ _ 39 39 rfl 5 Tryz.underlying39 (by kernel_rfl) w4.heap.size f (64 - f) (64 - f) ⟨bb,bo,none⟩ q d rfl rfl l 184 K5d.out (ys.take q) (by rw [List.length_take]; show _ = min q (64 - f); omega) HSRC (by rw [List.length_take]; omega) ?_
   intro w6 hk6 hg6
   simp only [pZ_]
   clear HSRC
   have A6 := hQ_ (A5d.out.stored HS.out K5d.out (.inr rfl) (by decide) hg6)
   have Y6 := hQ_ (bs_grown Y5d.out hg6 (fun b o e => by have := (OF.out b o e).2; omega))
   have L6 := hQ_ (L5d.out.grown hg6 (so_off L4.out (Nat.le_refl _)))
   have X6 : Hid (Bs w6 (some ⟨w4.heap.size,0,none⟩) 64 (sp_ l (ys.take q) f)) := hQ_ (by
    have := blk_bs hk6 HSB.out
    rw [HSL.out] at this
    exact this)
   clear hk6 hg6 hyl
   go_wp2_with ((with_reducible refine pick (some 43) ?_); refine wpList_slice rfl _ _ _ _ _ rfl _ (slice64a w6 w4.heap.size) ?_)
   refine (HPT.out p1 _ s1 _ _ _ _ A6.out.rep (HI.out.lim HLI.out) o1 o2 X6.out).mono ?_
   intro e w7 h7
   rcases Wrote.split h7 with ⟨s7,S7,D7,rfl,hg7,hr7,st7,af7⟩ | ⟨s7,S7,D7,rfl,hg7,hr7,st7,af7⟩
   ·have A7 := hQ_ ((A6.out.step HS.out hr7 st7).less (M' := fun b => ∃ o',(some ⟨g,o,none⟩ : Option Addr) = some ⟨b,o',none⟩) (fun b hb => .inl hb))
    have OF4 := off_of A6.out HA.out HBA.out
    have y7 := bs_stp Y6.out st7.chg (fun b o e => (OF4 b o e).1)
    have L7 := hQ_ (so_chg L6.out st7.chg (fun b hb => by cases hb; exact A6.out.apart HS.out (.inl ⟨o,rfl⟩)))
    obtain ⟨don2,i7⟩ := HNX.out s7 _ HPC.out (by rw [HSL.out]; exact Nat.le_refl _) af7 hg7
    have I7 := hQ_ i7
    obtain ⟨B2,hs48,hB2⟩ := slice_bl w7 bb bo m d q (by omega) (by omega)
    have Y8 : Hid (Bs w7 B2 (m - q) (ys.drop q)) := hQ_ (by
     rcases hB2 with rfl | ⟨hmq,rfl⟩
     ·exact bs_back y7 q hqm
     ·have e1 : ys.drop q = [] := List.drop_eq_nil_of_le (by rw [y7.1]; omega)
      rw [e1,show m - q = 0 by omega]
      exact Bs.nil_ _ _)
    have BA2 : Hid (∀ b o,B2 = some ⟨b,o,none⟩ → ∃ o',A = some ⟨b,o',none⟩) := hQ_ (fun b o e => by
     rcases hB2 with rfl | ⟨_,rfl⟩
     ·injection e with e
      injection e with e _
      subst e
      exact HBA.out _ _ rfl
     ·exact HBA.out _ _ e)
    clear h7 hr7 st7 af7 hg7 OF4 y7 i7 hB2
    have hpn : pn ≤ 4096 := by rw [← HP.out.1]; exact HPL.out
    go_wp2_with ((with_reducible refine pick (some 48) ?_); refine wpList_slice rfl _ _ _ _ _ rfl _ hs48 ?_)
    go_roundw
    case rel => exact ⟨k + 1,m - q,d - q,B2,ys.drop q,s7,S7,D7,don2,by go_num,by omega,rfl,by omega,by omega,Y8,BA2,A7,L7,I7⟩
    case measure => simp [intOf]; omega
   ·have A7 := hQ_ (A6.out.step HS.out hr7 st7)
    have C7 := hQ_ (HST.out s7 _ HPC.out af7 hg7)
    clear h7 hr7 st7 af7 hg7
    go_wp2_with fail
    go_ret
    exact ⟨s7,S7,D7,by rw [C7.out.2]; rfl,A7.out.rep,A7.out.st,C7.out.1⟩
  ·obtain rfl : k = pn := by omega
   have C9 := hQ_ (HI.out.done (by rw [HP.out.1]; exact Nat.le_refl _))
   go_wp2_with fail
   go_ret
   exact ⟨s1,S',D',by rw [C9.out.2]; rfl,HAT.out.rep,HAT.out.st,C9.out.1⟩
end Go.Proofs.YtogdjbhjgbnicaaGreatDoor.FileKe
namespace Go.Proofs.YtogdjbhjgbnicaaGreatDoor.FileKf
open Go.RowKit
open Byte PackM KeysM KeysS KeysV KeysB KeysD TreeR ViewM ViewR NodeM WalkM WalkF WalkKm DirsV FileM FileV Lst Chg TreeL ViewL WalkL WalkV Vat WalkKb DirsK DirsKa
open TreeM hiding cutL
open Own hiding keeps
variable {Rep : RepT}
def CpN (Rep : RepT) : Prop := ∀ ⦃w v s S D⦄,Rep w v s S D → Lim s → Calls Tryz.prog 21 #[v] w fun e w' => ∃ v' S' D',e = .returned v' ∧ Rep w' v' s S' D' ∧ (∀ b,D' b → w.heap.size ≤ b) ∧ Below w.heap.size w w'
theorem del_next {M : List Pr} {k : Nat} {x : Pr} (h : M[k]? = some x) : (M.take (k + 1)).map (fun p => delP p.key) = (M.take k).map (fun p => delP p.key) ++ [delP x.key] := by
 rw [List.take_add_one,h,Option.toList_some,List.map_append]; rfl
theorem drop_calls (hW : Wk Rep) (hCp : CpN Rep) {w : World} {v : Value} {s : Vs} {S D : Nat → Prop} (ino z : Int) (hr : Rep w v s S D) (hl : Lim s) (h0 : 0 ≤ ino) (h1 : ino ≤ 4294967295) (z0 : 0 ≤ z) (z1 : z ≤ 65535) (hk : ∀ p ∈ s.shown,(sp p.key).letter ≠ 0) :
 Calls Tryz.prog 109 #[v,.int .u32 ino,.int .i64 z] w (Wrote Rep v s (drpPs s.shown ino z) 0 0 S D w) := by
 have A0 := hQ_ (At.start hr)
 have HE := hQ_ (fun w => blocks_small ino z w h0 h1 (by omega) (by omega))
 have HK := hQ_ hk
 have HS := hQ_ hW.stays
 have HL := hQ_ hl
 have HX := hQ_ hW.range
 have HWK := hQ_ hW
 have HCP := hQ_ (hCp hr hl)
 have hn := hW.shown hr hl
 obtain ⟨M,hM⟩ : ∃ M,s.shown.filter (blkF ino z) = M := ⟨_,rfl⟩
 have HMF := hQ_ hM
 have HM2 : Hid (∀ p ∈ M,p.key.size ≤ 100000 ∧ (sp p.key).letter = 68) := hQ_ (fun p hp => by
  rw [← hM] at hp
  have h3 := List.mem_filter.1 hp
  have h4 := sp_key (HK.out p h3.1)
  have h5 := h3.2
  unfold blkF at h5
  simp only [Bool.and_eq_true,decide_eq_true_eq] at h5
  exact ⟨by omega,h5.1.1⟩)
 have HDR : Hid (drpPs s.shown ino z = M.map fun p => delP p.key) := hQ_ (by unfold drpPs; rw [hM])
 rw [HDR.out]
 clear hr hl hk hM hW hCp HDR
 go_enter Tryz.func109,Tryz.ntmps109
 go_wp2_with fail
 refine HCP.out.mono ?_
 rintro e w1 ⟨v',Sc,Dc,rfl,hrc,hnew,hb1⟩
 have A1 := hQ_ ((A0.out.owns HS.out hb1 (Q := Dc) (fun b hb => ⟨hnew b hb,HS.out.lt hrc b hb⟩)).less (M' := Dc) (fun b hb => .inr hb))
 have RC := hQ_ hrc
 clear hrc hnew hb1
 go_wp2_with fail
 refine (HE.out _).mono ?_
 rintro e w2 ⟨a,b,rfl,hrg,ha,hb,hb2⟩
 have A2 := hQ_ (A1.out.below HS.out hb2)
 have RC2 := hQ_ (HS.out.below RC.out hb2)
 have HRG : Hid (rangeL a b s.shown = s.shown.filter (blkF ino z)) := hQ_ (range_ent hrg.out HK.out)
 clear hb2 hrg
 go_wp2_with fail
 refine (HX.out a b RC2.out HL.out (by omega) (by omega)).mono ?_
 rintro e w3 ⟨⟨ra,rn,rc⟩,S3,D3,rfl,hsl,hnew,hr3,st3⟩
 rw [rangeOf_is,HRG.out,HMF.out] at hsl
 dsimp only at hsl hnew
 have A3 : Hid (At Rep w S D (fun b => 0 < rn ∧ ∃ o,ra = some ⟨b,o,none⟩) w3 v s S D) := hQ_ (by
  have q := A2.out.chg HS.out st3.chg st3.kept (fun b hb _ => HS.out.sub RC2.out b hb)
  refine ⟨q.rep,q.st,fun b ⟨hpos,o,e⟩ => ?_⟩
  have h5 := hnew hpos b o e
  obtain ⟨x,b',o',hx,he,hlt,_⟩ := hsl.get 0 hpos
  rw [e] at he
  injection he with he
  injection he with he _
  subst he
  exact ⟨Nat.le_trans A2.out.size h5,hlt,fun hd => by have := HS.out.lt A2.out.rep b hd; omega⟩)
 have HLR := hQ_ hsl
 have hrn : rn ≤ 100000 := by
  rw [← hsl.1,← HMF.out]
  exact Nat.le_trans (List.length_filter_le _ _) hn
 clear hsl hnew hr3 st3 ha hb
 go_wp2_with fail
 go_loopw [22] (fun i wr => ∃ (k : Nat) (s1 : Vs) (S' D' : Nat → Prop),i = .int .i64 k ∧ k ≤ rn ∧ Hid (At Rep w S D (fun b => 0 < rn ∧ ∃ o,ra = some ⟨b,o,none⟩) wr v s1 S' D') ∧ Hid (Sl prE wr ra rn M) ∧ Hid (Aft s s1 ((M.take k).map fun p => delP p.key) 0 0 ∧ (goW s ((M.take k).map fun p => delP p.key)).2 = true)) (fun i _ => rn - (intOf i).toNat)
 case atStart => exact ⟨0,s,S,D,rfl,Nat.zero_le _,A3,HLR,hQ_ ⟨Aft.nil (Sm.refl s) (Nat.le_refl _) (Nat.le_refl _),rfl⟩⟩
 case round =>
  obtain ⟨k,s1,S',D',rfl,hk,HA,HL1,HC⟩ := hrel
  by_cases hlt : k < rn
  ·obtain ⟨x,g,o,hx,rfl,hg,hcl⟩ := HL1.out.get k hlt
   obtain ⟨c1,c2,c3,hcc⟩ := pair_cells hcl
   have hmx := HM2.out x (List.mem_of_getElem? hx)
   have HNX := hQ_ (del_next hx)
   have HSP := hQ_ (fun w => split_calls x.key w hmx.1)
   unfold SpE at HSP
   have HCT := hQ_ (fun (w1 : World) (S1 D1 : Nat → Prop) (hr1 : Rep w1 v s1 S1 D1) => cut_w HWK.out x.key hr1 (lim_aft HC.out.1 HL.out (by have := HL.out.rd; omega) (by have := HL.out.rg; omega)) hmx.1)
   have HRS : Hid ((M.take (k + 1)).map (fun p => delP p.key) ++ (M.drop (k + 1)).map (fun p => delP p.key) = M.map fun p => delP p.key) := hQ_ (by rw [← List.map_append,List.take_append_drop])
   have hlet := hmx.2
   obtain ⟨xk,xv,xg⟩ := x
   dsimp only at *
   rw [hlet] at HSP
   clear hcl hx hmx hlet
   generalize (sp xk).ino = X2 at *
   generalize (sp xk).name = X3 at *
   generalize (sp xk).n = X4 at *
   have R4 := hQ_ (Blk.new_ wr #[.string xk,.string xv,.bool xg] 64)
   have hbp := bX_ R4.out
   have A4 := hQ_ ((HA.out.own HS.out hbp (Nat.le_refl wr.heap.size) (by simp)))
   have L4 := hQ_ (HL1.out.below hbp)
   clear hbp
   go_wp2_with ((with_reducible refine pick (some 25) ?_); refine wpList_load_mid rfl 64 _ rfl g (o + k * 3) rfl _ _ hcc Tryz.underlying64 rfl info_pair3 ?_)
   refine (HSP.out _).mono ?_
   rintro e w5 ⟨rfl,hb5⟩
   have A5 := hQ_ (A4.out.below HS.out hb5)
   have L5 := hQ_ (L4.out.below hb5)
   have R5 := hQ_ (R4.out.below hb5)
   have p0 := cZ0 R5.out
   clear hb5 c1 c2 c3 hcc
   go_wp2_with fail
   refine (HCT.out _ _ _ A5.out.rep).mono ?_
   intro e w6 h6
   rcases Wrote.split h6 with ⟨s6,S6,D6,rfl,hg6,hr6,st6,af6⟩ | ⟨s6,S6,D6,rfl,hg6,hr6,st6,af6⟩
   ·have A6 := hQ_ ((A5.out.step HS.out hr6 st6).less (M' := fun b' => 0 < rn ∧ ∃ o',(some ⟨g,o,none⟩ : Option Addr) = some ⟨b',o',none⟩) (fun b hb => .inl hb))
    have L6 := hQ_ (A5.out.sl HS.out L5.out (fun b' o' e => .inl ⟨by omega,o',e⟩) st6)
    have C6 : Hid (Aft s s6 ((M.take (k + 1)).map fun p => delP p.key) 0 0 ∧ (goW s ((M.take (k + 1)).map fun p => delP p.key)).2 = true) := hQ_ (by
     have q := HC.out.1.app HC.out.2 af6
     rw [HNX.out]
     exact ⟨q.1,q.2.trans hg6⟩)
    clear h6 hr6 st6 af6 hg6
    go_wp2_with fail
    go_roundw
    case rel => exact ⟨k + 1,s6,S6,D6,by go_num,by omega,A6,L6,C6⟩
    case measure => simp [intOf]; omega
   ·have A6 := hQ_ (A5.out.step HS.out hr6 st6)
    have C6 : Hid (Aft s s6 (M.map fun p => delP p.key) 0 0 ∧ (goW s (M.map fun p => delP p.key)).2 = false) := hQ_ (by
     have q := HC.out.1.app HC.out.2 af6
     rw [← HRS.out,HNX.out]
     exact q.1.stop (q.2.trans hg6))
    clear h6 hr6 st6 af6 hg6
    go_wp2_with fail
    go_ret
    exact ⟨s6,S6,D6,by rw [C6.out.2]; rfl,A6.out.rep,A6.out.st,C6.out.1⟩
  ·obtain rfl : k = rn := by omega
   have hM : M.take k = M := List.take_of_length_le (by rw [HLR.out.1]; exact Nat.le_refl _)
   have hC := HC.out
   rw [hM] at hC
   have C9 := hQ_ hC
   clear hC
   go_wp2_with fail
   go_ret
   exact ⟨s1,S',D',by rw [C9.out.2]; rfl,HA.out.rep,HA.out.st,C9.out.1⟩
end Go.Proofs.YtogdjbhjgbnicaaGreatDoor.FileKf
namespace Go.Proofs.YtogdjbhjgbnicaaGreatDoor.FileKg
open Go.RowKit
open Byte PackM KeysM TreeR ViewM NodeM WalkM WalkF WalkKm DirsV FileM FileV Lst Chg TreeL ViewL WalkL WalkV Vat DirsK DirsKa FileK FileKd FileKe
open TreeM hiding cutL
open Own hiding keeps
variable {Rep : RepT}
theorem fil_bd (L : List Pr) (ino : Int) : InoB (filV L ino).1.k (filV L ino).1.l (filV L ino).1.s (filV L ino).1.p := by
 unfold filV
 split
 ·have h := load_k L ino
  exact ⟨h.1,h.2.1,h.2.2.1,h.2.2.2.1,h.2.2.2.2.1,h.2.2.2.2.2.1,h.2.2.2.2.2.2.1,h.2.2.2.2.2.2.2⟩
 ·exact ⟨by decide,by decide,by decide,by decide,by decide,by decide,by decide,by decide⟩
def ReadE (Rep : RepT) (v : Value) (s' : Vs) (r : List Int × Int) (S D : Nat → Prop) (w : World) (e : Ending) (w' : World) : Prop := ∃ u m S' D',e = .returned (.tuple #[u,.int .i64 r.2]) ∧ So u8E 5 w' w.heap.size u m r.1 ∧ Rep w' v s' S' D' ∧ Stp S D S' D' w w' ∧ ∀ b,u.ownBlock = some b → ¬ D' b
theorem Read_calls (hW : Wk Rep) (hK : LookOk Rep) {w : World} {v : Value} {s : Vs} {S D : Nat → Prop} (ino a n : Int) (hr : Rep w v s S D) (hl : Lim s) (h2 : s.rd.length ≤ 19990) (h0 : 0 ≤ ino) (h1 : ino ≤ 4294967295) (a0 : -9223372036854775808 ≤ a) (a1 : a ≤ 9223372036854775807) (n0 : -9223372036854775808 ≤ n) (n1 : n ≤ 9223372036854775807) (hv : V64 s.shown ino) :
 Calls Tryz.prog 82 #[v,.int .u32 ino,.int .i64 a,.int .i64 n] w (ReadE Rep v (s.read (kI ino)) (reaV s.shown ino a n) S D w) := by
 have A0 := hQ_ (At.start hr)
 have HLD := hQ_ (FileK.load_calls hW ino hr hl h0 h1)
 unfold FilV at HLD
 have HS := hQ_ hW.stays
 have hl2 : Lim (s.read (kI ino)) := ⟨hl.base,by have := read_len s (kI ino); omega,hl.rg⟩
 have hsh : (s.read (kI ino)).shown = s.shown := ((Sm.refl s).read _).shown
 have HRD := hQ_ (fun (m : Int) (w1 : World) (S1 D1 : Nat → Prop) (hr1 : Rep w1 v (s.read (kI ino)) S1 D1) (b0 : 0 ≤ a) (m0 : -9223372036854775808 ≤ m) (m1 : m ≤ 9223372036854775807) => read_calls hW hK ino a m hr1 hl2 h0 h1 b0 a1 m0 m1 (by rw [hsh]; exact fun q q0 q1 => hv q q0 (by omega)))
 rw [hsh] at HRD
 have hbd := fil_bd s.shown ino
 unfold reaV
 obtain ⟨q,hfx⟩ : ∃ q,filV s.shown ino = q := ⟨_,rfl⟩
 rw [hfx] at hbd HLD ⊢
 obtain ⟨⟨xk,xl,xz,xp⟩,xe⟩ := q
 dsimp only at hbd HLD ⊢
 obtain ⟨b0,b1,b2,b3,b4,b5,b6,b7⟩ := hbd
 generalize s.read (kI ino) = s1 at *
 clear hr hl hv hW hK hl2 hsh hfx
 by_cases he : xe = 0
 ·subst he
  rw [if_neg (by decide)]
  by_cases hc : a < 0 ∨ n < 0 ∨ 1024 < n
  ·rw [if_pos hc]
   by_cases c1 : a < 0
   ·have d1 : decide (a < 0) = true := by simpa using c1
    clear hc
    go_enter Tryz.func82,Tryz.ntmps82
    go_wp2_with fail
    refine HLD.out.mono ?_
    rintro e w1 ⟨S1,D1,rfl,hr1,st1⟩
    have hbn := bN_ w1 (.cells #[.int .u8 xk,.int .u32 xl,.int .u32 xz,.int .u32 xp] 46)
    have A1 := hQ_ ((A0.out.step HS.out hr1 st1).below HS.out hbn)
    clear hr1 st1 hbn
    go_wp2_with fail
    go_ret2
    exact ⟨_,0,S1,D1,rfl,So.nil_ _ _ _ _,A1.out.rep,A1.out.st,fun _ h => by cases h⟩
   ·have d1 : decide (a < 0) = false := by simpa using c1
    by_cases c2 : n < 0
    ·have d2 : decide (n < 0) = true := by simpa using c2
     clear hc
     go_enter Tryz.func82,Tryz.ntmps82
     go_wp2_with fail
     refine HLD.out.mono ?_
     rintro e w1 ⟨S1,D1,rfl,hr1,st1⟩
     have hbn := bN_ w1 (.cells #[.int .u8 xk,.int .u32 xl,.int .u32 xz,.int .u32 xp] 46)
     have A1 := hQ_ ((A0.out.step HS.out hr1 st1).below HS.out hbn)
     clear hr1 st1 hbn
     go_wp2_with fail
     go_ret2
     exact ⟨_,0,S1,D1,rfl,So.nil_ _ _ _ _,A1.out.rep,A1.out.st,fun _ h => by cases h⟩
    ·have d2 : decide (n < 0) = false := by simpa using c2
     have c3 : 1024 < n := by omega
     have d3 : decide (n > 1024) = true := by simpa using c3
     clear hc
     go_enter Tryz.func82,Tryz.ntmps82
     go_wp2_with fail
     refine HLD.out.mono ?_
     rintro e w1 ⟨S1,D1,rfl,hr1,st1⟩
     have hbn := bN_ w1 (.cells #[.int .u8 xk,.int .u32 xl,.int .u32 xz,.int .u32 xp] 46)
     have A1 := hQ_ ((A0.out.step HS.out hr1 st1).below HS.out hbn)
     clear hr1 st1 hbn
     go_wp2_with fail
     go_ret2
     exact ⟨_,0,S1,D1,rfl,So.nil_ _ _ _ _,A1.out.rep,A1.out.st,fun _ h => by cases h⟩
  ·rw [if_neg hc]
   have d1 : decide (a < 0) = false := by simp; omega
   have d2 : decide (n < 0) = false := by simp; omega
   have d3 : decide (n > 1024) = false := by simp; omega
   have e1 : wrap64 (xz - a) = xz - a := by unfold wrap64; omega
   have e2 : wrap64 xz = xz := by unfold wrap64; omega
   have HRM := hQ_ (fun (w1 : World) (S1 D1 : Nat → Prop) (hr1 : Rep w1 v s1 S1 D1) => HRD.out (min n (xz - a)) w1 S1 D1 hr1 (by omega) (by omega) (by omega))
   have a2 : 0 ≤ a := by omega
   clear hc HRD
   go_enter Tryz.func82,Tryz.ntmps82
   go_wp2_with fail
   refine HLD.out.mono ?_
   rintro e w1 ⟨S1,D1,rfl,hr1,st1⟩
   have hbn := bN_ w1 (.cells #[.int .u8 xk,.int .u32 xl,.int .u32 xz,.int .u32 xp] 46)
   have A1 := hQ_ ((A0.out.step HS.out hr1 st1).below HS.out hbn)
   have f2 : (w1.alloc (.cells #[.int .u8 xk,.int .u32 xl,.int .u32 xz,.int .u32 xp] 46)).cell? ⟨w1.heap.size,2,none⟩ = some (.int .u32 xz) := (Blk.new_ w1 #[.int .u8 xk,.int .u32 xl,.int .u32 xz,.int .u32 xp] 46).cell 2
   clear hr1 st1 hbn
   go_wp2_with fail
   refine (HRM.out _ _ _ A1.out.rep).mono ?_
   rintro e w2 ⟨u,m,S2,D2,rfl,hso,hr2,st2,hn2⟩
   have A2 := hQ_ (A1.out.step HS.out hr2 st2)
   have O2 := hQ_ (hso.lower A1.out.size)
   have N2 := hQ_ hn2
   clear hso hr2 st2 f2 hn2
   go_wp2_with fail
   go_ret2
   exact ⟨u,m,S2,D2,rfl,O2.out,A2.out.rep,A2.out.st,N2.out⟩
 ·rw [if_pos he]
  have d1 : (xe != 0) = true := by simpa using he
  clear he
  go_enter Tryz.func82,Tryz.ntmps82
  go_wp2_with fail
  refine HLD.out.mono ?_
  rintro e w1 ⟨S1,D1,rfl,hr1,st1⟩
  have hbn := bN_ w1 (.cells #[.int .u8 xk,.int .u32 xl,.int .u32 xz,.int .u32 xp] 46)
  have A1 := hQ_ ((A0.out.step HS.out hr1 st1).below HS.out hbn)
  clear hr1 st1 hbn
  go_wp2_with fail
  go_ret2
  exact ⟨_,0,S1,D1,rfl,So.nil_ _ _ _ _,A1.out.rep,A1.out.st,fun _ h => by cases h⟩
end Go.Proofs.YtogdjbhjgbnicaaGreatDoor.FileKg
namespace Go.Proofs.YtogdjbhjgbnicaaGreatDoor.FileKh
open Go.RowKit
open Byte PackM KeysM TreeR ViewM NodeM NodeG WalkM WalkF WalkKm DirsV FileM FileV Lst Chg TreeL ViewL WalkL WalkV Vat WalkKa DirsK DirsKa FileK FileKd FileKe FileKg
open TreeM hiding cutL
open Own hiding keeps
variable {Rep : RepT}
theorem aft_load (s : Vs) (k : ByteArray) : Aft s (s.read k) [] 1 0 ∧ (goW s []).2 = true := ⟨Aft.nil ((Sm.refl s).read k) (read_len s k) (Nat.le_refl _),rfl⟩
theorem ans_err {v : Value} {s : Vs} {k : ByteArray} {er : Int} {S D M S' D' : Nat → Prop} {w w' : World} (A : At Rep w S D M w' v (s.read k) S' D') : Ans Rep v s er [] 1 0 S D w (.returned (.int .i64 er)) w' := Ans.ok A (aft_load s k)
theorem Write_calls (hW : Wk Rep) (hK : LookOk Rep) (hT : SetOk Rep) {w : World} {v : Value} {s : Vs} {S D : Nat → Prop} (ino a : Int) {A : Option Addr} {n c : Nat} {xs : List Int} (hr : Rep w v s S D) (hl : Lim s) (h2 : s.rd.length ≤ 19990) (h0 : 0 ≤ ino) (h1 : ino ≤ 4294967295) (a0 : -9223372036854775808 ≤ a) (a1 : a ≤ 9223372036854775807) (hx : Bs w A n xs) (hc : n ≤ c) (hbig : c ≤ 9223372036854775807) (hA : 0 < n → ∀ b o,A = some ⟨b,o,none⟩ → ¬ S b ∧ b < w.heap.size) (hv : V64 s.shown ino) :
 Calls Tryz.prog 83 #[v,.int .u32 ino,.int .i64 a,.slice A n c] w (Ans Rep v s (wriV s.shown ino a xs).1 (wriV s.shown ino a xs).2 1 0 S D w) := by
 have A0 := hQ_ (At.start hr)
 have HLD := hQ_ (FileK.load_calls hW ino hr hl h0 h1)
 unfold FilV at HLD
 have HS := hQ_ hW.stays
 have hl2 : Lim (s.read (kI ino)) := ⟨hl.base,by have := read_len s (kI ino); omega,hl.rg⟩
 have hsh : (s.read (kI ino)).shown = s.shown := ((Sm.refl s).read _).shown
 have HWR := hQ_ (fun (w1 : World) (S1 D1 : Nat → Prop) (hr1 : Rep w1 v (s.read (kI ino)) S1 D1) (b0 : 0 ≤ a) (bn : a + n ≤ 4096) (hx1 : Bs w1 A n xs) (hA1 : ∀ b o,A = some ⟨b,o,none⟩ → ¬ S1 b ∧ b < w1.heap.size) => write_calls hW hK hT ino a hr1 hl2 h0 h1 b0 bn hx1 hc hbig hA1 (by rw [hsh]; exact hv))
 have HSV := hQ_ (fun (k l z p : Int) (w1 : World) (s5 : Vs) (S1 D1 : Nat → Prop) (hr1 : Rep w1 v s5 S1 D1) (hl5 : Lim s5) (hb : InoB k l z p) => save_w hW ino k l z p hr1 hl5 h0 h1 hb)
 have HRO := hQ_ FileK.room_calls
 have HL2 := hQ_ hl2
 have C1 := hQ_ (aft_load s (kI ino))
 have hbd := fil_bd s.shown ino
 unfold wriV
 rw [hx.1]
 obtain ⟨q,hfx⟩ : ∃ q,filV s.shown ino = q := ⟨_,rfl⟩
 rw [hfx] at hbd HLD ⊢
 obtain ⟨⟨xk,xl,xz,xp⟩,xe⟩ := q
 dsimp only at hbd HLD ⊢
 obtain ⟨b0,b1,b2,b3,b4,b5,b6,b7⟩ := hbd
 have HX := hQ_ hx
 have HA := hQ_ hA
 have HER : ∀ (er : Int) (M S' D' : Nat → Prop) (w' : World),At Rep w S D M w' v (s.read (kI ino)) S' D' → Ans Rep v s er [] 1 0 S D w (.returned (.int .i64 er)) w' := fun er M S' D' w' h => ans_err h
 have HERR := hQ_ HER
 clear HER
 generalize hs1 : s.read (kI ino) = s1 at *
 clear hr hl hv hW hK hT hl2 hsh hfx hx hA hs1
 by_cases he : xe = 0
 ·subst he
  rw [if_neg (by decide)]
  by_cases hc1 : a < 0 ∨ 1024 < n
  ·rw [if_pos hc1]
   by_cases c1 : a < 0
   ·have d1 : decide (a < 0) = true := by simpa using c1
    clear hc1
    go_enter Tryz.func83,Tryz.ntmps83
    go_wp2_with fail
    refine HLD.out.mono ?_
    rintro e w1 ⟨S1,D1,rfl,hr1,st1⟩
    have hbn := bN_ w1 (.cells #[.int .u8 xk,.int .u32 xl,.int .u32 xz,.int .u32 xp] 46)
    have A1 := hQ_ ((A0.out.step HS.out hr1 st1).below HS.out hbn)
    clear hr1 st1 hbn
    go_wp2_with fail
    go_ret
    exact HERR.out _ _ _ _ _ A1.out
   ·have d1 : decide (a < 0) = false := by simpa using c1
    have c3 : 1024 < (n : Int) := by omega
    have d3 : decide ((n : Int) > 1024) = true := by simpa using c3
    clear hc1
    go_enter Tryz.func83,Tryz.ntmps83
    go_wp2_with fail
    refine HLD.out.mono ?_
    rintro e w1 ⟨S1,D1,rfl,hr1,st1⟩
    have hbn := bN_ w1 (.cells #[.int .u8 xk,.int .u32 xl,.int .u32 xz,.int .u32 xp] 46)
    have A1 := hQ_ ((A0.out.step HS.out hr1 st1).below HS.out hbn)
    clear hr1 st1 hbn
    go_wp2_with fail
    go_ret
    exact HERR.out _ _ _ _ _ A1.out
  ·rw [if_neg hc1]
   have d1 : decide (a < 0) = false := by simp; omega
   have d3 : decide ((n : Int) > 1024) = false := by simp; omega
   have e1 : wrap64 (4096 - (n : Int)) = 4096 - (n : Int) := by unfold wrap64; omega
   by_cases c4 : 4096 - (n : Int) < a
   ·rw [if_pos c4]
    have d4 : decide (a > 4096 - (n : Int)) = true := by simpa using c4
    clear hc1
    go_enter Tryz.func83,Tryz.ntmps83
    go_wp2_with fail
    refine HLD.out.mono ?_
    rintro e w1 ⟨S1,D1,rfl,hr1,st1⟩
    have hbn := bN_ w1 (.cells #[.int .u8 xk,.int .u32 xl,.int .u32 xz,.int .u32 xp] 46)
    have A1 := hQ_ ((A0.out.step HS.out hr1 st1).below HS.out hbn)
    clear hr1 st1 hbn
    go_wp2_with fail
    go_ret
    exact HERR.out _ _ _ _ _ A1.out
   ·rw [if_neg c4]
    have d4 : decide (a > 4096 - (n : Int)) = false := by simp; omega
    by_cases c5 : n = 0
    ·rw [if_pos c5]
     have d5 : ((n : Int) == 0) = true := by rw [beq_iff_eq]; omega
     clear hc1
     go_enter Tryz.func83,Tryz.ntmps83
     go_wp2_with fail
     refine HLD.out.mono ?_
     rintro e w1 ⟨S1,D1,rfl,hr1,st1⟩
     have hbn := bN_ w1 (.cells #[.int .u8 xk,.int .u32 xl,.int .u32 xz,.int .u32 xp] 46)
     have A1 := hQ_ ((A0.out.step HS.out hr1 st1).below HS.out hbn)
     clear hr1 st1 hbn
     go_wp2_with fail
     go_ret
     exact HERR.out _ _ _ _ _ A1.out
    ·rw [if_neg c5]
     have d5 : ((n : Int) == 0) = false := by rw [beq_eq_false_iff_ne]; omega
     have e2 : wrap64 (a + (n : Int)) = a + (n : Int) := by unfold wrap64; omega
     have e3 : (a + (n : Int)) % 4294967296 = a + (n : Int) := by omega
     have hbm : InoB xk xl (max xz (a + (n : Int))) xp := ⟨b0,b1,b2,b3,by omega,by omega,b6,b7⟩
     have HBM := hQ_ hbm
     have e4 : NodeL.cutL a n = cutV a n := rfl
     rw [e4] at HWR
     have g0 : 0 ≤ a := by omega
     have g1 : a + (n : Int) ≤ 4096 := by omega
     have HA2 := hQ_ (HA.out (by omega))
     clear hc1 c4 c5 hbm e4
     go_enter Tryz.func83,Tryz.ntmps83
     go_wp2_with fail
     refine HLD.out.mono ?_
     rintro e w1 ⟨S1,D1,rfl,hr1,st1⟩
     have I2 := hQ_ (Blk.new_ w1 #[.int .u8 xk,.int .u32 xl,.int .u32 (max xz (a + (n : Int))),.int .u32 xp] 46)
     have hbn := bX_ I2.out
     have AQ := A0.out.step HS.out hr1 st1
     have A2 := hQ_ (AQ.own HS.out hbn (Nat.le_refl w1.heap.size) (by simp))
     have f2 : (w1.alloc (.cells #[.int .u8 xk,.int .u32 xl,.int .u32 xz,.int .u32 xp] 46)).cell? ⟨w1.heap.size,2,none⟩ = some (.int .u32 xz) := (Blk.new_ w1 #[.int .u8 xk,.int .u32 xl,.int .u32 xz,.int .u32 xp] 46).cell 2
     have X2 := hQ_ ((bs_stp HX.out st1.chg (fun b o e => (HA2.out b o e).1)).below hbn)
     have F2 : Hid (∀ b o,A = some ⟨b,o,none⟩ → ¬ S1 b ∧ b < (w1.alloc (.cells #[.int .u8 xk,.int .u32 xl,.int .u32 (max xz (a + (n : Int))),.int .u32 xp] 46)).heap.size) := hQ_ (fun b o e => by
      have h5 := HA2.out b o e
      refine ⟨fun hs => ?_,?_⟩
      ·rcases st1.own b hs with q | q
       ·exact h5.1 q
       ·omega
      ·have := A2.out.size
       omega)
     clear hr1 st1 hbn AQ
     go_wp2_with fail
     refine (HWR.out _ _ _ A2.out.rep g0 g1 X2.out F2.out).mono ?_
     intro e w3 h3
     rcases Wrote.split h3 with ⟨s3,S3,D3,rfl,hg3,hr3,st3,af3⟩ | ⟨s3,S3,D3,rfl,hg3,hr3,st3,af3⟩
     ·have A3 := hQ_ (A2.out.step HS.out hr3 st3)
      have I3 := hQ_ (A2.out.blk HS.out I2.out (.inr rfl) st3)
      have q3 := C1.out.1.app C1.out.2 af3
      have C3 : Hid (Aft s s3 (wrPs ino xs (cutV a n)) 1 0 ∧ (goW s (wrPs ino xs (cutV a n))).2 = true) := hQ_ ⟨q3.1,q3.2.trans hg3⟩
      have L3 : Hid (Lim s3) := hQ_ (lim_aft af3 HL2.out (by have := HL2.out.rd; omega) (by have := HL2.out.rg; omega))
      clear h3 hr3 st3 af3 hg3 q3 f2
      have i0 := cC4 I3.out
      go_wp2_with fail
      refine (HSV.out xk xl (max xz (a + (n : Int))) xp _ _ _ _ A3.out.rep L3.out HBM.out).mono ?_
      intro e w4 h4
      rcases Wrote.split h4 with ⟨s4,S4,D4,rfl,hg4,hr4,st4,af4⟩ | ⟨s4,S4,D4,rfl,hg4,hr4,st4,af4⟩
      ·have A4 := hQ_ (A3.out.step HS.out hr4 st4)
       have q4 := C3.out.1.app C3.out.2 af4
       have C4 := hQ_ (And.intro q4.1 (q4.2.trans hg4))
       clear h4 hr4 st4 af4 hg4 q4
       go_wp2_with fail
       refine (HRO.out _ _).mono ?_
       rintro e w5 ⟨rfl,rfl⟩
       go_wp2_with fail
       go_ret
       exact Ans.ok A4.out C4.out
      ·have A4 := hQ_ (A3.out.step HS.out hr4 st4)
       have q4 := C3.out.1.app C3.out.2 af4
       have C4 := hQ_ (And.intro q4.1 (q4.2.trans hg4))
       clear h4 hr4 st4 af4 hg4 q4
       go_wp2_with fail
       refine (HRO.out _ _).mono ?_
       rintro e w5 ⟨rfl,rfl⟩
       go_wp2_with fail
       go_ret
       exact Ans.full A4.out C4.out
     ·have A3 := hQ_ (A2.out.step HS.out hr3 st3)
      have q3 := C1.out.1.app C1.out.2 af3
      have C3 : Hid (Aft s s3 (wrPs ino xs (cutV a n) ++ [saveP ino xk xl (max xz (a + (n : Int))) xp]) 1 0 ∧ (goW s (wrPs ino xs (cutV a n) ++ [saveP ino xk xl (max xz (a + (n : Int))) xp])).2 = false) := hQ_ (q3.1.stop (q3.2.trans hg3))
      clear h3 hr3 st3 af3 hg3 q3 f2
      go_wp2_with fail
      refine (HRO.out _ _).mono ?_
      rintro e w5 ⟨rfl,rfl⟩
      go_wp2_with fail
      go_ret
      exact Ans.full A3.out C3.out
 ·rw [if_pos he]
  have d1 : (xe != 0) = true := by simpa using he
  clear he
  go_enter Tryz.func83,Tryz.ntmps83
  go_wp2_with fail
  refine HLD.out.mono ?_
  rintro e w1 ⟨S1,D1,rfl,hr1,st1⟩
  have hbn := bN_ w1 (.cells #[.int .u8 xk,.int .u32 xl,.int .u32 xz,.int .u32 xp] 46)
  have A1 := hQ_ ((A0.out.step HS.out hr1 st1).below HS.out hbn)
  clear hr1 st1 hbn
  go_wp2_with fail
  go_ret
  exact HERR.out _ _ _ _ _ A1.out
end Go.Proofs.YtogdjbhjgbnicaaGreatDoor.FileKh
namespace Go.Proofs.YtogdjbhjgbnicaaGreatDoor.OpsW
open Go.RowKit
open Byte KeysM ViewM NodeM WalkM WalkF DirsV FileM FileV Lst Chg TreeL ViewL WalkL Vat Ho DirsK DirsKa FileK FileKd Cpy FileKe FileKg FileKh OpsR OpsD OpsE OpsI OpsJ OpsK OpsS
open TreeM hiding cutL
open Own hiding lower
variable {Rep : RepT}
def AnsN (Rep : RepT) (g : Nat) (v : Value) (hs : List Int) (s : Vs) (er N : Int) (ps : List Wrt) (k m : Nat) (S D : Nat → Prop) (w : World) (e : Ending) (w' : World) : Prop := ∃ J s' S' D',J = (if (goW s ps).2 = true then er else 21) ∧ e = .returned (resV J (if J = 0 then N else 0) (.slice none 0 0) (.slice none 0 0) 0 0 0 0) ∧ Dst Rep w' g v hs s' S' D' ∧ Dstp S D S' D' g w w' ∧ Aft s s' ps k m
def wrtD (L : List Pr) (hs : List Int) (hn frm : Int) (xs : List Int) : Int × List Wrt := if (inoD hs hn).2 = 0 then wriV L (inoD hs hn).1 frm xs else (16,[])
def ReadD (Rep : RepT) (g : Nat) (v : Value) (hs : List Int) (s' : Vs) (r : List Int × Int) (S D : Nat → Prop) (w : World) (e : Ending) (w' : World) : Prop := ∃ (a : Option Addr) (m c : Nat) (S' D' : Nat → Prop),e = .returned (resV r.2 (m : Int) (.slice a m c) (.slice none 0 0) 0 0 0 0) ∧ So u8E 5 w' w.heap.size (.slice a m c) m r.1 ∧ Dst Rep w' g v hs s' S' D' ∧ Dstp S D S' D' g w w' ∧ (∀ q o,a = some ⟨q,o,none⟩ → ¬ D' q)
theorem inoD_er (hs : List Int) (hn : Int) : (inoD hs hn).2 = 0 ∨ (inoD hs hn).2 = 16 := by
 unfold inoD
 repeat' split
 all_goals first | exact .inl rfl | exact .inr rfl
theorem write_deed (hW0 : Wk Rep) (hLk : LookOk Rep) (hSt : SetOk Rep) {w : World} {g : Nat} {v : Value} {hs : List Int} {s : Vs} {S D : Nat → Prop} (o : Op20) (ino : Int) (hdd : Dst Rep w g v hs s S D) (hl : Lim s) (h2 : s.rd.length ≤ 18000) (a0 : -9223372036854775808 ≤ o.frm) (a1 : o.frm ≤ 9223372036854775807) {xs : List Int} (hxs : Bs w o.da o.dn xs) (hc : o.dn ≤ o.dc) (hbig : o.dc ≤ 9223372036854775807) (hA : 0 < o.dn → ∀ b of,o.da = some ⟨b,of,none⟩ → ¬ S b ∧ b < w.heap.size) (hv : V64 s.shown (inoD hs o.hn).1) :
 Calls Tryz.prog 50 #[.pointer (some ⟨g,0,none⟩),o.val,.int .u32 ino] w (AnsN Rep g v hs s (wrtD s.shown hs o.hn o.frm xs).1 o.dn (wrtD s.shown hs o.hn o.frm xs).2 1 0 S D w) := by
 obtain ⟨kind,path,other,hn,frm,n,da,dn,dc⟩ := o
 dsimp only [Op20.val,Op20.cells] at *
 obtain ⟨hr,hd,hng⟩ := hdd
 have hlt := hW0.stays.lt hr
 have hsub := hW0.stays.sub hr
 obtain ⟨W,hW⟩ : ∃ W,(w.alloc (.cells #[.int .u8 kind,.string path,.string other,.int .i64 hn,.int .i64 frm,.int .i64 n,.slice da dn dc] 41)).alloc (.cells zres 48) = W := ⟨_,rfl⟩
 have hs1 : (w.alloc (.cells #[.int .u8 kind,.string path,.string other,.int .i64 hn,.int .i64 frm,.int .i64 n,.slice da dn dc] 41)).heap.size = w.heap.size + 1 := by simp
 have hB : Blk W (w.heap.size + 1) zres 48 := by rw [← hW,← hs1]; exact Blk.new_ _ zres _
 have hO : Blk W w.heap.size #[.int .u8 kind,.string path,.string other,.int .i64 hn,.int .i64 frm,.int .i64 n,.slice da dn dc] 41 := by rw [← hW]; exact (Blk.new_ _ _ _).alloc _
 have hbW : Below w.heap.size w W := by rw [← hW]; exact (bW_).alloc (by rw [hs1]; omega) _
 have hsW : W.heap.size = w.heap.size + 2 := by rw [← hW]; simp
 have hbd : Below w.heap.size w W.drew := hbW.drew
 have HB0 : Hid (Blk W (w.heap.size + 1) zres 48) := hQ_ hB
 have HBD0 : Hid (Blk W.drew (w.heap.size + 1) zres 48) := hQ_ hB
 have HAW := hQ_ ((At.start hr).owns hW0.stays hbW (Q := fun b => b = w.heap.size ∨ b = w.heap.size + 1) (fun b h => by rw [hsW]; omega))
 have HA0 := hQ_ ((At.start hr).owns hW0.stays hbd (Q := fun b => b = w.heap.size ∨ b = w.heap.size + 1) (fun b h => by
  have e : W.drew.heap.size = W.heap.size := rfl
  rw [e,hsW]
  omega))
 have HIN := hQ_ (inode_calls (hd.below hbW) hn)
 have hib := inoD_bd hd.bd hn
 have h3 := cZ3 hO
 have RD : Hid (∀ q0,Chg (fun k => S k ∨ k = w.heap.size + 1) W q0 → Chg (fun k => S k ∨ k = w.heap.size + 1) W q0 ∧ q0.cell? ⟨g,0,none⟩ = some v ∧ q0.cell? ⟨w.heap.size,4,none⟩ = some (.int .i64 frm) ∧ q0.cell? ⟨w.heap.size,5,none⟩ = some (.int .i64 n) ∧ q0.cell? ⟨w.heap.size,6,none⟩ = some (.slice da dn dc)) := hQ_ (fun q0 hq => by
  obtain ⟨c1,c2⟩ := find_cells hd hng hlt hsub hbW hO hq
  exact ⟨hq,c1,c2 4,c2 5,c2 6⟩)
 have HW := hQ_ hW
 have HVS := hQ_ hW0.stays
 have HRW := hQ_ hr
 have HDS := hQ_ hd
 have HNG := hQ_ hng
 have hcc := Write_calls hW0 hLk hSt (inoD hs hn).1 frm (hW0.stays.below hr hbd) hl (by omega) hib.1 hib.2 a0 a1 (hxs.below hbd) hc hbig (fun h b of e => ⟨(hA h b of e).1,Nat.lt_of_lt_of_le (hA h b of e).2 hbd.size⟩) hv
 unfold wrtD
 obtain ⟨⟨io,ie⟩,hI⟩ : ∃ I,inoD hs hn = I := ⟨_,rfl⟩
 have hie := inoD_er hs hn
 rw [hI] at HIN hcc hie ⊢
 dsimp only at HIN hcc hie ⊢
 rcases hie with rfl | rfl
 ·rw [if_pos rfl]
  obtain ⟨er,her⟩ : ∃ er,(wriV s.shown io frm xs).1 = er := ⟨_,rfl⟩
  obtain ⟨ps,hps⟩ : ∃ ps,(wriV s.shown io frm xs).2 = ps := ⟨_,rfl⟩
  rw [her,hps] at hcc ⊢
  obtain ⟨J,hJ⟩ : ∃ J : Int,(if (goW s ps).2 = true then er else 21) = J := ⟨_,rfl⟩
  unfold Ans at hcc
  simp only [hJ] at hcc
  have HC := hQ_ hcc
  have HJ := hQ_ hJ
  have hsz : dn ≤ 9223372036854775807 := Nat.le_trans hc hbig
  clear hW hs1 hO hB hbW hsW hbd hlt hsub hd hr hng hl h2 hW0 hI hcc her hps hJ hib hxs hc hbig hA hv a0 a1 hLk hSt
  go_enter Tryz.func50,Tryz.ntmps50
  go_wp2_with fail
  rw [HW.out]
  go_wp2_with fail
  refine HIN.out.mono ?_
  rintro e w2 ⟨rfl,rfl⟩
  go_wp2_with fail
  refine wp_region_held_drew (S := fun q0 => Chg (fun k => S k ∨ k = w.heap.size + 1) W q0 ∧ q0.cell? ⟨g,0,none⟩ = some v ∧ q0.cell? ⟨w.heap.size,4,none⟩ = some (.int .i64 frm) ∧ q0.cell? ⟨w.heap.size,5,none⟩ = some (.int .i64 n) ∧ q0.cell? ⟨w.heap.size,6,none⟩ = some (.slice da dn dc)) (by kernel_rfl) (RD.out _ (Chg.refl (fun k => S k ∨ k = w.heap.size + 1) W).drew) (fun hHeld => ?_)
  refine hw_ 0 (some 21) ?_
  refine hw_ 1 (some 22) ?_
  refine hw_ 2 (some 23) ?_
  refine hw_ 3 (some 24) ?_
  refine hw_ 4 (some 25) ?_
  refine hw_ 5 (some 26) ?_
  refine hw_ 6 (some 27) ?_
  refine hw_ 7 (some 28) ?_
  refine hw_ 8 (some 29) ?_
  refine ho_step 9 (some 30) rfl rfl (by kernel_rfl) (by kernel_rfl) (fun K hK => ?_)
  go_simp
  go_at_call 83
  refine HC.out.mono ?_
  rintro e w3 ⟨s',S',D',rfl,hr3,st3,aft3⟩
  have hq3 : Chg (fun k => S k ∨ k = w.heap.size + 1) W w3 := (Chg.refl (fun k => S k ∨ k = w.heap.size + 1) W).drew.trans (st3.chg.mono (fun _ _ h => .inl h))
  try go_wp2_with fail
  refine hK.out _ _ (RD.out _ hq3) (fun hHeld2 => ?_)
  clear hHeld
  have hHeld := hHeld2
  clear hHeld2
  clear hK K
  try simp only [pZ_]
  refine hw_ 10 (some 9) ?_
  refine wpAnyH_done (by kernel_rfl) ?_ _
  have HA5 := hQ_ (At.step HVS.out HA0.out hr3 st3)
  have HR5 := hQ_ (At.blk HVS.out HA0.out HBD0.out (.inr (.inr rfl)) st3)
  have HF5 := hQ_ aft3
  have HO5 := hQ_ (RD.out _ hq3)
  have k6 : w3.cell? ⟨w.heap.size,6,none⟩ = some (.slice da dn dc) := HO5.out.2.2.2.2
  clear hHeld hq3 hr3 st3 aft3
  by_cases e1 : J = 0
  ·have HJ0 := hQ_ e1
   subst e1
   go_wp2_with ((with_reducible refine pick none ?_); refine store_blk rfl 48 _ _ rfl (w.heap.size + 1) #[.int .i64 0,.int .i64 (dn : Int),.slice none 0 0,.slice none 0 0,.int .u8 0,.int .u32 0,.int .u32 0,.int .u32 0] rfl rfl 48 _ HR5.out info_res rfl (by simp [Value.oneCell']) ?_; intro w8 hk8 hg8)
   have A8 := At.stored HVS.out HA5.out HR5.out (.inr (.inr rfl)) (by decide) hg8
   exact bodyPost_ret (v := resV 0 (dn : Int) (.slice none 0 0) (.slice none 0 0) 0 0 0 0) (results_cell_row rfl _ _ (w.heap.size + 1) 48 _ (0,0) _ rfl hk8 Tryz.underlying48 rfl info_res) rfl ⟨0,s',S',D',HJ.out.symm,rfl,(Dst.step HVS.out ⟨HRW.out,HDS.out,HNG.out⟩ A8.rep A8.st).1,(Dst.step HVS.out ⟨HRW.out,HDS.out,HNG.out⟩ A8.rep A8.st).2,HF5.out⟩
  ·have d1 : (J == 0) = false := by simpa using e1
   have HNZ := hQ_ e1
   clear e1
   go_wp2_with fail
   refine (only_calls J _).mono ?_
   rintro e w7 ⟨rfl,hb7⟩
   have HR7 := hQ_ (HR5.out.below hb7)
   have HA7 := hQ_ (At.below HVS.out HA5.out hb7)
   clear hb7
   go_wp2_with ((with_reducible refine pick none ?_); refine store_blk rfl 48 _ _ rfl (w.heap.size + 1) #[.int .i64 J,.int .i64 0,.slice none 0 0,.slice none 0 0,.int .u8 0,.int .u32 0,.int .u32 0,.int .u32 0] rfl rfl 48 _ HR7.out info_res rfl (by simp [Value.oneCell']) ?_; intro w8 hk8 hg8)
   have A8 := At.stored HVS.out HA7.out HR7.out (.inr (.inr rfl)) (by decide) hg8
   exact bodyPost_ret (v := onlyV J) (results_cell_row rfl _ _ (w.heap.size + 1) 48 _ (0,0) _ rfl hk8 Tryz.underlying48 rfl info_res) rfl ⟨J,s',S',D',HJ.out.symm,by rw [if_neg HNZ.out],(Dst.step HVS.out ⟨HRW.out,HDS.out,HNG.out⟩ A8.rep A8.st).1,(Dst.step HVS.out ⟨HRW.out,HDS.out,HNG.out⟩ A8.rep A8.st).2,HF5.out⟩
 ·rw [if_neg (by decide)]
  clear hW hs1 hO hB hbW hsW hbd hlt hsub hd hr hng hl h2 hW0 hI hcc hib hxs hc hbig hA hv a0 a1 hLk hSt RD
  go_enter Tryz.func50,Tryz.ntmps50
  go_wp2_with fail
  rw [HW.out]
  go_wp2_with fail
  refine HIN.out.mono ?_
  rintro e w2 ⟨rfl,rfl⟩
  have HA5 := hQ_ HAW.out
  have HR5 := hQ_ HB0.out
  go_wp2_with fail
  refine (only_calls 16 _).mono ?_
  rintro e w7 ⟨rfl,hb7⟩
  have HR7 := hQ_ (HR5.out.below hb7)
  have HA7 := hQ_ (At.below HVS.out HA5.out hb7)
  clear hb7
  go_wp2_with ((with_reducible refine pick none ?_); refine store_blk rfl 48 _ _ rfl (w.heap.size + 1) #[.int .i64 16,.int .i64 0,.slice none 0 0,.slice none 0 0,.int .u8 0,.int .u32 0,.int .u32 0,.int .u32 0] rfl rfl 48 _ HR7.out info_res rfl (by simp [Value.oneCell']) ?_; intro w8 hk8 hg8)
  have A8 := At.stored HVS.out HA7.out HR7.out (.inr (.inr rfl)) (by decide) hg8
  exact bodyPost_ret (v := onlyV 16) (results_cell_row rfl _ _ (w.heap.size + 1) 48 _ (0,0) _ rfl hk8 Tryz.underlying48 rfl info_res) rfl ⟨16,s,S,D,by rw [goW_nil]; rfl,rfl,(Dst.step HVS.out ⟨HRW.out,HDS.out,HNG.out⟩ A8.rep A8.st).1,(Dst.step HVS.out ⟨HRW.out,HDS.out,HNG.out⟩ A8.rep A8.st).2,⟨by rw [goW_nil]; exact Sm.refl _,by omega,by omega⟩⟩
theorem read_deed (hW0 : Wk Rep) (hLk : LookOk Rep) {w : World} {g : Nat} {v : Value} {hs : List Int} {s : Vs} {S D : Nat → Prop} (o : Op20) (ino : Int) (hdd : Dst Rep w g v hs s S D) (hl : Lim s) (h2 : s.rd.length ≤ 18000) (a0 : -9223372036854775808 ≤ o.frm) (a1 : o.frm ≤ 9223372036854775807) (n0 : -9223372036854775808 ≤ o.n) (n1 : o.n ≤ 9223372036854775807) (hv : V64 s.shown (inoD hs o.hn).1) :
 Calls Tryz.prog 49 #[.pointer (some ⟨g,0,none⟩),o.val,.int .u32 ino] w (if (inoD hs o.hn).2 = 0 then ReadD Rep g v hs (s.read (kI (inoD hs o.hn).1)) (reaV s.shown (inoD hs o.hn).1 o.frm o.n) S D w else AnsN Rep g v hs s 16 0 [] 1 0 S D w) := by
 obtain ⟨kind,path,other,hn,frm,n,da,dn,dc⟩ := o
 dsimp only [Op20.val,Op20.cells] at *
 obtain ⟨hr,hd,hng⟩ := hdd
 have hlt := hW0.stays.lt hr
 have hsub := hW0.stays.sub hr
 obtain ⟨W,hW⟩ : ∃ W,(w.alloc (.cells #[.int .u8 kind,.string path,.string other,.int .i64 hn,.int .i64 frm,.int .i64 n,.slice da dn dc] 41)).alloc (.cells zres 48) = W := ⟨_,rfl⟩
 have hs1 : (w.alloc (.cells #[.int .u8 kind,.string path,.string other,.int .i64 hn,.int .i64 frm,.int .i64 n,.slice da dn dc] 41)).heap.size = w.heap.size + 1 := by simp
 have hB : Blk W (w.heap.size + 1) zres 48 := by rw [← hW,← hs1]; exact Blk.new_ _ zres _
 have hO : Blk W w.heap.size #[.int .u8 kind,.string path,.string other,.int .i64 hn,.int .i64 frm,.int .i64 n,.slice da dn dc] 41 := by rw [← hW]; exact (Blk.new_ _ _ _).alloc _
 have hbW : Below w.heap.size w W := by rw [← hW]; exact (bW_).alloc (by rw [hs1]; omega) _
 have hsW : W.heap.size = w.heap.size + 2 := by rw [← hW]; simp
 have hbd : Below w.heap.size w W.drew := hbW.drew
 have HB0 : Hid (Blk W (w.heap.size + 1) zres 48) := hQ_ hB
 have HBD0 : Hid (Blk W.drew (w.heap.size + 1) zres 48) := hQ_ hB
 have HAW := hQ_ ((At.start hr).owns hW0.stays hbW (Q := fun b => b = w.heap.size ∨ b = w.heap.size + 1) (fun b h => by rw [hsW]; omega))
 have HA0 := hQ_ ((At.start hr).owns hW0.stays hbd (Q := fun b => b = w.heap.size ∨ b = w.heap.size + 1) (fun b h => by
  have e : W.drew.heap.size = W.heap.size := rfl
  rw [e,hsW]
  omega))
 have HIN := hQ_ (inode_calls (hd.below hbW) hn)
 have hib := inoD_bd hd.bd hn
 have h3 := cZ3 hO
 have RD : Hid (∀ q0,Chg (fun k => S k ∨ k = w.heap.size + 1) W q0 → Chg (fun k => S k ∨ k = w.heap.size + 1) W q0 ∧ q0.cell? ⟨g,0,none⟩ = some v ∧ q0.cell? ⟨w.heap.size,4,none⟩ = some (.int .i64 frm) ∧ q0.cell? ⟨w.heap.size,5,none⟩ = some (.int .i64 n) ∧ q0.cell? ⟨w.heap.size,6,none⟩ = some (.slice da dn dc)) := hQ_ (fun q0 hq => by
  obtain ⟨c1,c2⟩ := find_cells hd hng hlt hsub hbW hO hq
  exact ⟨hq,c1,c2 4,c2 5,c2 6⟩)
 have HW := hQ_ hW
 have HVS := hQ_ hW0.stays
 have HRW := hQ_ hr
 have HDS := hQ_ hd
 have HNG := hQ_ hng
 have hcc := Read_calls hW0 hLk (inoD hs hn).1 frm n (hW0.stays.below hr hbd) hl (by omega) hib.1 hib.2 a0 a1 n0 n1 hv
 obtain ⟨⟨io,ie⟩,hI⟩ : ∃ I,inoD hs hn = I := ⟨_,rfl⟩
 have hie := inoD_er hs hn
 rw [hI] at HIN hcc hie ⊢
 dsimp only at HIN hcc hie ⊢
 rcases hie with rfl | rfl
 ·rw [if_pos rfl]
  obtain ⟨⟨ys,er⟩,hR⟩ : ∃ R,reaV s.shown io frm n = R := ⟨_,rfl⟩
  rw [hR] at hcc ⊢
  unfold ReadE at hcc
  have HC := hQ_ hcc
  clear hW hs1 hO hB hbW hsW hbd hlt hsub hd hr hng hl h2 hW0 hI hcc hR hib hv a0 a1 n0 n1 hLk
  go_enter Tryz.func49,Tryz.ntmps49
  go_wp2_with fail
  rw [HW.out]
  go_wp2_with fail
  refine HIN.out.mono ?_
  rintro e w2 ⟨rfl,rfl⟩
  go_wp2_with fail
  refine wp_region_held_drew (S := fun q0 => Chg (fun k => S k ∨ k = w.heap.size + 1) W q0 ∧ q0.cell? ⟨g,0,none⟩ = some v ∧ q0.cell? ⟨w.heap.size,4,none⟩ = some (.int .i64 frm) ∧ q0.cell? ⟨w.heap.size,5,none⟩ = some (.int .i64 n) ∧ q0.cell? ⟨w.heap.size,6,none⟩ = some (.slice da dn dc)) (by kernel_rfl) (RD.out _ (Chg.refl (fun k => S k ∨ k = w.heap.size + 1) W).drew) (fun hHeld => ?_)
  refine hw_ 0 (some 22) ?_
  refine hw_ 1 (some 23) ?_
  refine hw_ 2 (some 24) ?_
  refine hw_ 3 (some 25) ?_
  refine hw_ 4 (some 26) ?_
  refine hw_ 5 (some 27) ?_
  refine hw_ 6 (some 28) ?_
  refine hw_ 7 (some 29) ?_
  refine hw_ 8 (some 30) ?_
  refine ho_step 9 (some 31) rfl rfl (by kernel_rfl) (by kernel_rfl) (fun K hK => ?_)
  go_simp
  go_at_call 82
  refine HC.out.mono ?_
  rintro e w3 ⟨u3,m3,S',D',rfl,ho3,hr3,st3,hn3⟩
  obtain ⟨ua,uc,rfl,_,_,_⟩ := Tx.So.head ho3
  have hq3 : Chg (fun k => S k ∨ k = w.heap.size + 1) W w3 := (Chg.refl (fun k => S k ∨ k = w.heap.size + 1) W).drew.trans (st3.chg.mono (fun _ _ h => .inl h))
  try go_wp2_with fail
  refine hK.out _ _ (RD.out _ hq3) (fun hHeld2 => ?_)
  clear hHeld
  have hHeld := hHeld2
  clear hHeld2
  clear hK K
  try simp only [pZ_]
  refine hw_ 10 (some 21) ?_
  refine hw_ 11 (some 32) ?_
  refine hw_ 12 (some 33) ?_
  refine hw_ 13 (some 9) ?_
  refine hw_ 14 (some 8) ?_
  refine wpAnyH_done (by kernel_rfl) ?_ _
  have HA5 := hQ_ (At.step HVS.out HA0.out hr3 st3)
  have HR5 := hQ_ (At.blk HVS.out HA0.out HBD0.out (.inr (.inr rfl)) st3)
  have HO3 := hQ_ ho3
  have HWS := hQ_ (show w.heap.size + 1 < W.drew.heap.size from HBD0.out.lt)
  have HN3 := hQ_ hn3
  clear hHeld hq3 hr3 st3 ho3 hn3
  go_wp2_with ((with_reducible refine pick none ?_); refine store_blk rfl 48 _ _ rfl (w.heap.size + 1) #[.int .i64 er,.int .i64 (m3 : Int),.slice ua m3 uc,.slice none 0 0,.int .u8 0,.int .u32 0,.int .u32 0,.int .u32 0] rfl rfl 48 _ HR5.out info_res rfl (by simp [Value.oneCell']) ?_; intro w8 hk8 hg8)
  have A8 := At.stored HVS.out HA5.out HR5.out (.inr (.inr rfl)) (by decide) hg8
  have ho8 := So.grown HO3.out hg8 (by
   cases hb : (Value.slice ua m3 uc).ownBlock with
   | none => exact .inl rfl
   | some q =>
     refine .inr (fun e => ?_)
     have := (HO3.out.lt hb).1
     have := HWS.out
     injection e with e
     omega)
  exact bodyPost_ret (v := resV er (m3 : Int) (.slice ua m3 uc) (.slice none 0 0) 0 0 0 0) (results_cell_row rfl _ _ (w.heap.size + 1) 48 _ (0,0) _ rfl hk8 Tryz.underlying48 rfl info_res) rfl ⟨ua,m3,uc,S',D',rfl,So.lower ho8 (Nat.le_trans (Nat.le_succ _) (Nat.le_of_lt HWS.out)),(Dst.step HVS.out ⟨HRW.out,HDS.out,HNG.out⟩ A8.rep A8.st).1,(Dst.step HVS.out ⟨HRW.out,HDS.out,HNG.out⟩ A8.rep A8.st).2,fun q o e => HN3.out q (by rw [e]; rfl)⟩
 ·rw [if_neg (by decide)]
  clear hW hs1 hO hB hbW hsW hbd hlt hsub hd hr hng hl h2 hW0 hI hcc hib hv a0 a1 n0 n1 hLk RD
  go_enter Tryz.func49,Tryz.ntmps49
  go_wp2_with fail
  rw [HW.out]
  go_wp2_with fail
  refine HIN.out.mono ?_
  rintro e w2 ⟨rfl,rfl⟩
  have HA5 := hQ_ HAW.out
  have HR5 := hQ_ HB0.out
  go_wp2_with fail
  refine (only_calls 16 _).mono ?_
  rintro e w7 ⟨rfl,hb7⟩
  have HR7 := hQ_ (HR5.out.below hb7)
  have HA7 := hQ_ (At.below HVS.out HA5.out hb7)
  clear hb7
  go_wp2_with ((with_reducible refine pick none ?_); refine store_blk rfl 48 _ _ rfl (w.heap.size + 1) #[.int .i64 16,.int .i64 0,.slice none 0 0,.slice none 0 0,.int .u8 0,.int .u32 0,.int .u32 0,.int .u32 0] rfl rfl 48 _ HR7.out info_res rfl (by simp [Value.oneCell']) ?_; intro w8 hk8 hg8)
  have A8 := At.stored HVS.out HA7.out HR7.out (.inr (.inr rfl)) (by decide) hg8
  exact bodyPost_ret (v := onlyV 16) (results_cell_row rfl _ _ (w.heap.size + 1) 48 _ (0,0) _ rfl hk8 Tryz.underlying48 rfl info_res) rfl ⟨16,s,S,D,by rw [goW_nil]; rfl,rfl,(Dst.step HVS.out ⟨HRW.out,HDS.out,HNG.out⟩ A8.rep A8.st).1,(Dst.step HVS.out ⟨HRW.out,HDS.out,HNG.out⟩ A8.rep A8.st).2,⟨by rw [goW_nil]; exact Sm.refl _,by omega,by omega⟩⟩
end Go.Proofs.YtogdjbhjgbnicaaGreatDoor.OpsW
namespace Go.Proofs.YtogdjbhjgbnicaaGreatDoor.OpsT
open Go.RowKit
open Byte KeysM TreeM ViewM NodeM WalkM WalkF DirsV Lst Chg TreeL ViewL WalkL Vat DirsK DirsKa DirsKc FileV FileKd FileKe OpsR OpsD OpsE OpsI OpsJ OpsK OpsS OpsO OpsW
open Own hiding lower
variable {Rep : RepT}
def Off (r : Res20) (D' : Nat → Prop) : Prop := (∀ q o,r.da = some ⟨q,o,none⟩ → ¬ D' q) ∧ (∀ q o,r.na = some ⟨q,o,none⟩ → ¬ D' q)
def DoE (Rep : RepT) (Q : Res20 → Nat → World → List Int → Vs → Prop) (g : Nat) (v : Value) (S D : Nat → Prop) (w : World) (e : Ending) (w' : World) : Prop := ∃ (r : Res20) (hs' : List Int) (s' : Vs) (S' D' : Nat → Prop),e = .returned r.val ∧ Dst Rep w' g v hs' s' S' D' ∧ Dstp S D S' D' g w w' ∧ Off r D' ∧ Q r w.heap.size w' hs' s'
structure Qk (Q : Res20 → Nat → World → List Int → Vs → Prop) : Prop where
 keep : ∀ {r b u u' hs s c},Q r b u hs s → u.grownBy u' (some c) → c < b → Q r b u' hs s
 low : ∀ {r b b' u hs s},Q r b u hs s → b' ≤ b → Q r b' u hs s
theorem do_at (hV : Stays Rep) {Q : Res20 → Nat → World → List Int → Vs → Prop} (hQ : Qk Q) {w : World} {g : Nat} {v : Value} {hs : List Int} {s : Vs} {S D : Nat → Prop} (o : Op20) (ino : Int) (hdd : Dst Rep w g v hs s S D)
 (hE : ∀ (args : Array Value) (w : World),(callFunc (deedF o.kind) args).run Tryz.prog w = .ok (.enter (deedF o.kind) args) w)
 (hC : ∀ u,Below w.heap.size w u → Dst Rep u g v hs s S D → Calls Tryz.prog (deedF o.kind) #[.pointer (some ⟨g,0,none⟩),o.val,.int .u32 ino] u (DoE Rep Q g v S D u)) :
 Calls Tryz.prog 15 #[.pointer (some ⟨g,0,none⟩),o.val,.int .u32 ino] w (DoE Rep Q g v S D w) := by
 have hlt := hV.lt hdd.rep
 have hsub := hV.sub hdd.rep
 have hg := hdd.dsk.blk.lt
 refine (do_calls ⟨g,0,none⟩ o ino w (fun r u' => ∃ (hs' : List Int) (s' : Vs) (S' D' : Nat → Prop),Dst Rep u' g v hs' s' S' D' ∧ Dstp S D S' D' g w u' ∧ Off r D' ∧ Q r (w.heap.size + 2) u' hs' s' ∧ ¬ D' (w.heap.size + 1)) hE ?_ ?_).mono ?_
 ·intro u hb hsz
  refine (hC u hb (hdd.below hV hb)).mono ?_
  rintro e u' ⟨r,hs',s',S',D',rfl,h1,h2,ho,h3⟩
  refine ⟨r,rfl,fun k hk1 hk2 => h2.chg.block k hk2 (fun h => ?_),hs',s',S',D',h1,?_,ho,hQ.low h3 hsz,fun hd => ?_⟩
  ·rcases h with h | h
   ·have := hlt k (hsub k h)
    omega
   ·omega
  ·exact Dstp.trans ⟨Chg.of_below hb,Kept.of_below hb,Grow.refl _ _,Grow.refl _ _⟩ h2
  ·rcases h2.dep _ hd with h | h
   ·have := hlt _ h
    omega
   ·omega
 ·rintro r u u' ⟨hs',s',S',D',h1,h2,ho,h3,h4⟩ hB hg5
  obtain ⟨z1,z2⟩ := Dst.stored (w0 := w) hV h1 hB hg5 h4 (by omega) (Nat.le_succ _) h2
  exact ⟨hs',s',S',D',z1,z2,ho,hQ.keep h3 hg5 (by omega),h4⟩
 ·rintro e w' ⟨r,he,hs',s',S',D',h1,h2,ho,h3,_⟩
  exact ⟨r,hs',s',S',D',he,h1,h2,ho,hQ.low h3 (by omega)⟩
abbrev resN (er n : Int) : Res20 := ⟨er,n,none,0,0,none,0,0,0,0,0,0⟩
theorem off_n {D' : Nat → Prop} {er n : Int} : Off (resN er n) D' := ⟨fun _ _ h => by (have h' : (none : Option Addr) = some _ := h; cases h'),fun _ _ h => by (have h' : (none : Option Addr) = some _ := h; cases h')⟩
def QN (hs : List Int) (s : Vs) (er N : Int) (ps : List Wrt) (k m : Nat) (r : Res20) (b : Nat) (u : World) (hs' : List Int) (s' : Vs) : Prop := hs' = hs ∧ ∃ J,J = (if (goW s ps).2 = true then er else 21) ∧ r = resN J (if J = 0 then N else 0) ∧ Aft s s' ps k m
theorem qN {hs : List Int} {s : Vs} {er N : Int} {ps : List Wrt} {k m : Nat} : Qk (QN hs s er N ps k m) := ⟨fun h _ _ => h,fun h _ => h⟩
theorem of_ansO (hV : Stays Rep) {w : World} {g : Nat} {v : Value} {hs : List Int} {s : Vs} {S D : Nat → Prop} {er : Int} {ps : List Wrt} {k m : Nat} (hdd : Dst Rep w g v hs s S D) {e : Ending} {w' : World} (h : AnsO Rep v s er ps k m S D w e w') : DoE Rep (QN hs s er 0 ps k m) g v S D w e w' := by
 obtain ⟨s',S',D',he,hr,st,ha⟩ := h
 refine ⟨resN (if (goW s ps).2 = true then er else 21) 0,hs,s',S',D',he,(hdd.step hV hr st).1,(hdd.step hV hr st).2,off_n,rfl,_,rfl,by rw [ite_self],ha⟩
theorem of_ansN {w : World} {g : Nat} {v : Value} {hs : List Int} {s : Vs} {S D : Nat → Prop} {er N : Int} {ps : List Wrt} {k m : Nat} {e : Ending} {w' : World} (h : AnsN Rep g v hs s er N ps k m S D w e w') : DoE Rep (QN hs s er N ps k m) g v S D w e w' := by
 obtain ⟨J,s',S',D',hJ,he,hd,st,ha⟩ := h
 exact ⟨resN J (if J = 0 then N else 0),hs,s',S',D',he,hd,st,off_n,rfl,J,hJ,rfl,ha⟩
section
variable {w : World} {g : Nat} {v : Value} {hs : List Int} {s : Vs} {S D : Nat → Prop}
theorem do_create (hW0 : Wk Rep) (o : Op20) (ino : Int) (ho : o.kind = 4) (hdd : Dst Rep w g v hs s S D) (hl : Lim s) (h2 : s.rd.length ≤ 18000) (h3 : s.rg.length ≤ 900) (hx : Mxs w S) (hp : o.path.size ≤ 100000) (i0 : 0 ≤ ino) (i1 : ino ≤ 4294967295) :
 Calls Tryz.prog 15 #[.pointer (some ⟨g,0,none⟩),o.val,.int .u32 ino] w (DoE Rep (QN hs s (makV s.shown o.path 1 ino).1 0 (makV s.shown o.path 1 ino).2 41 0) g v S D w) := by
 refine do_at hW0.stays qN o ino hdd (by rw [ho]; exact fun args w => by kernel_rfl) (fun u hb hu => ?_)
 rw [ho]
 exact (create_deed hW0 o ino hu.dsk hu.rep hu.ng hl h2 h3 (hx.below hb) hp i0 i1).mono (fun _ _ h => of_ansO hW0.stays hu h)
def QO (s : Vs) (path : ByteArray) (x : Int × Int × List Int) (r : Res20) (b : Nat) (u : World) (hs' : List Int) (s' : Vs) : Prop := hs' = x.2.2 ∧ r = resN x.1 x.2.1 ∧ FindR s path s'
theorem do_open (hW0 : Wk Rep) (o : Op20) (ino : Int) (ho : o.kind = 6) (hdd : Dst Rep w g v hs s S D) (hl : Lim s) (h2 : s.rd.length ≤ 18000) (h3 : s.rg.length ≤ 900) (hx : Mxs w S) (hp : o.path.size ≤ 100000) :
 Calls Tryz.prog 15 #[.pointer (some ⟨g,0,none⟩),o.val,.int .u32 ino] w (DoE Rep (QO s o.path (opnV s.shown hs o.path)) g v S D w) := by
 refine do_at hW0.stays ⟨fun h _ _ => h,fun h _ => h⟩ o ino hdd (by rw [ho]; exact fun args w => by kernel_rfl) (fun u hb hu => ?_)
 rw [ho]
 refine (open_deed hW0 o ino hu hl h2 h3 (hx.below hb) hp).mono ?_
 rintro e u' ⟨s',S',D',he,hd,st,hf⟩
 exact ⟨resN _ _,_,s',S',D',he,hd,st,off_n,rfl,rfl,hf⟩
theorem do_write (hW0 : Wk Rep) (hLk : LookOk Rep) (hSt : SetOk Rep) (o : Op20) (ino : Int) (ho : o.kind = 9) (hdd : Dst Rep w g v hs s S D) (hl : Lim s) (h2 : s.rd.length ≤ 18000) (a0 : -9223372036854775808 ≤ o.frm) (a1 : o.frm ≤ 9223372036854775807) {xs : List Int} (hxs : Bs w o.da o.dn xs) (hc : o.dn ≤ o.dc) (hbig : o.dc ≤ 9223372036854775807) (hA : 0 < o.dn → ∀ b of,o.da = some ⟨b,of,none⟩ → ¬ S b ∧ b < w.heap.size) (hv : V64 s.shown (inoD hs o.hn).1) :
 Calls Tryz.prog 15 #[.pointer (some ⟨g,0,none⟩),o.val,.int .u32 ino] w (DoE Rep (QN hs s (wrtD s.shown hs o.hn o.frm xs).1 o.dn (wrtD s.shown hs o.hn o.frm xs).2 1 0) g v S D w) := by
 refine do_at hW0.stays qN o ino hdd (by rw [ho]; exact fun args w => by kernel_rfl) (fun u hb hu => ?_)
 rw [ho]
 exact (write_deed hW0 hLk hSt o ino hu hl h2 a0 a1 (hxs.below hb) hc hbig (fun h b of e => ⟨(hA h b of e).1,Nat.lt_of_lt_of_le (hA h b of e).2 hb.size⟩) hv).mono (fun _ _ h => of_ansN h)
def QR (L : List Pr) (hs : List Int) (hn frm n : Int) (s : Vs) (r : Res20) (b : Nat) (u : World) (hs' : List Int) (s' : Vs) : Prop := hs' = hs ∧ (((inoD hs hn).2 = 0 ∧ s' = s.read (kI (inoD hs hn).1) ∧ (∃ (a : Option Addr) (m c : Nat),r = ⟨(reaV L (inoD hs hn).1 frm n).2,(m : Int),a,m,c,none,0,0,0,0,0,0⟩ ∧ So u8E 5 u b (.slice a m c) m (reaV L (inoD hs hn).1 frm n).1)) ∨ ((inoD hs hn).2 ≠ 0 ∧ r = resN 16 0 ∧ Aft s s' [] 1 0))
theorem qR {L : List Pr} {hs : List Int} {hn frm n : Int} {s : Vs} : Qk (QR L hs hn frm n s) := by
 refine ⟨?_,?_⟩
 ·rintro r b u u' hs' s' c ⟨h1,⟨h2,h3,a,m,cc,h4,h5⟩ | h2⟩ hg hlt
  ·refine ⟨h1,.inl ⟨h2,h3,a,m,cc,h4,So.grown h5 hg ?_⟩⟩
   cases hb : (Value.slice a m cc).ownBlock with
   | none => exact .inl rfl
   | some q =>
     refine .inr (fun e => ?_)
     have := (h5.lt hb).1
     injection e with e
     omega
  ·exact ⟨h1,.inr h2⟩
 ·rintro r b b' u hs' s' ⟨h1,⟨h2,h3,a,m,cc,h4,h5⟩ | h2⟩ hlt
  ·exact ⟨h1,.inl ⟨h2,h3,a,m,cc,h4,So.lower h5 hlt⟩⟩
  ·exact ⟨h1,.inr h2⟩
theorem do_read (hW0 : Wk Rep) (hLk : LookOk Rep) (o : Op20) (ino : Int) (ho : o.kind = 8) (hdd : Dst Rep w g v hs s S D) (hl : Lim s) (h2 : s.rd.length ≤ 18000) (a0 : -9223372036854775808 ≤ o.frm) (a1 : o.frm ≤ 9223372036854775807) (n0 : -9223372036854775808 ≤ o.n) (n1 : o.n ≤ 9223372036854775807) (hv : V64 s.shown (inoD hs o.hn).1) :
 Calls Tryz.prog 15 #[.pointer (some ⟨g,0,none⟩),o.val,.int .u32 ino] w (DoE Rep (QR s.shown hs o.hn o.frm o.n s) g v S D w) := by
 refine do_at hW0.stays qR o ino hdd (by rw [ho]; exact fun args w => by kernel_rfl) (fun u hb hu => ?_)
 rw [ho]
 refine (read_deed hW0 hLk o ino hu hl h2 a0 a1 n0 n1 hv).mono ?_
 intro e u' h
 by_cases h0 : (inoD hs o.hn).2 = 0
 ·rw [if_pos h0] at h
  obtain ⟨a,m,c,S',D',he,ho,hd,st,hno⟩ := h
  exact ⟨⟨_,(m : Int),a,m,c,none,0,0,0,0,0,0⟩,hs,_,S',D',he,hd,st,⟨hno,fun _ _ h => by (have h' : (none : Option Addr) = some _ := h; cases h')⟩,rfl,.inl ⟨h0,rfl,a,m,c,rfl,ho⟩⟩
 ·rw [if_neg h0] at h
  obtain ⟨J,s',S',D',hJ,he,hd,st,ha⟩ := h
  rw [goW_nil] at hJ
  have hJ2 : J = 16 := hJ
  subst hJ2
  exact ⟨resN 16 0,hs,s',S',D',he,hd,st,off_n,rfl,.inr ⟨h0,rfl,ha⟩⟩
end
end Go.Proofs.YtogdjbhjgbnicaaGreatDoor.OpsT
namespace Go.Proofs.YtogdjbhjgbnicaaGreatDoor.DirsBm
open Byte PackM KeysM ViewM ViewKm NodeM NamesM WalkM WalkF WalkKm DirsV FileV
open TreeM hiding cutL
open TreeM (cutL)
def unlB (L : List Pr) (x : Spot) : Int × List Wrt := if x.node.k ≠ 1 then (13,[]) else if 1 < x.node.l then (0,[unhangP x.dir x.name,saveP x.ino x.node.k (x.node.l - 1) x.node.s x.node.p]) else (0,[unhangP x.dir x.name] ++ drpPs L x.ino 0 ++ [dropP x.ino])
def clrB (L : List Pr) (x : Spot) (dir : Bool) : Int × List Wrt := if x.ino = 0 then (0,[]) else if dir = true then remV L x else unlB L x
def ulkB (L : List Pr) (path : ByteArray) : Int × List Wrt :=
 if (findM L path).2 ≠ 0 then ((findM L path).2,[]) else if (findM L path).1.ino = 0 then (10,[]) else unlB L (findM L path).1
def renB (L : List Pr) (old path : ByteArray) : Int × List Wrt :=
 if (findM L old).2 ≠ 0 then ((findM L old).2,[]) else if (findM L old).1.ino = 1 then (29,[]) else if (findM L old).1.ino = 0 then (10,[])
 else if (findM L path).2 ≠ 0 then ((findM L path).2,[]) else if (findM L path).1.ino = 1 then (29,[]) else if (findM L old).1.ino = (findM L path).1.ino then (0,[])
 else if (findM L old).1.node.k = 2 ∧ under (spl old).1 (spl path).1 = true then (15,[])
 else if (clrB L (findM L path).1 (decide ((findM L old).1.node.k = 2))).1 ≠ 0 then ((clrB L (findM L path).1 (decide ((findM L old).1.node.k = 2))).1,[])
 else (0,(clrB L (findM L path).1 (decide ((findM L old).1.node.k = 2))).2 ++ movPs (findM L old).1 (findM L path).1)
theorem kE_letter (d : Int) (n : ByteArray) (h0 : 0 ≤ d) (h1 : d ≤ 4294967295) : (sp (kE d n)).letter ≠ 68 := by
 by_cases h2 : n.size ≤ 32
 ·by_cases h3 : 0 < n.size
  ·rw [sp_E d n h0 h1 h3 h2]
   exact (by decide : (69 : Int) ≠ 68)
  ·have hs : (kE d n).size = 5 := by
    unfold kE
    rw [if_neg (by omega),ByteArray.size_append,ks_size]
    omega
   rcases sp_ways (kE d n) with h | ⟨h,_⟩ | ⟨_,h,_⟩ | ⟨_,h⟩
   ·rw [h]
    decide
   ·rw [sp_73 h hs]
    exact (by decide : (73 : Int) ≠ 68)
   ·omega
   ·omega
 ·have e : kE d n = KeysM.E0 := if_pos (by omega)
  rw [e,sp_short (by decide)]
  decide
theorem filter_cut (L : List Pr) (k : ByteArray) (ino : Int) (hk : (sp k).letter ≠ 68) : (cutL k L).filter (blkF ino 0) = L.filter (blkF ino 0) := by
 unfold cutL
 rw [List.filter_filter]
 apply List.filter_congr
 intro p _
 cases hb : blkF ino 0 p with
 | false => rfl
 | true =>
   unfold blkF at hb
   simp only [Bool.and_eq_true,decide_eq_true_eq] at hb
   have : p.key ≠ k := fun e => hk (by rw [← e]; exact hb.1.1)
   simp [this]
theorem drp_unhang {s : Vs} (ho : s.Ok) (d : Int) (n : ByteArray) (h0 : 0 ≤ d) (h1 : d ≤ 4294967295) (ino : Int) : drpPs (s.write ⟨kE d n,⟨#[]⟩,true⟩).shown ino 0 = drpPs s.shown ino 0 := by
 unfold Vs.write
 split
 ·rfl
 ·show drpPs (shownL s.base (writeW s.base s.wr ⟨kE d n,⟨#[]⟩,true⟩)) ino 0 = drpPs (shownL s.base s.wr) ino 0
  rw [shown_write ho.base ho.wr]
  show drpPs (cutL (kE d n) (shownL s.base s.wr)) ino 0 = _
  unfold drpPs
  rw [filter_cut _ _ _ (kE_letter d n h0 h1)]
theorem clrB_err {L : List Pr} {x : Spot} {d : Bool} (h : (clrB L x d).1 ≠ 0) : (clrB L x d).2 = [] := by
 unfold clrB at h ⊢
 split
 ·rfl
 ·rename_i h0
  rw [if_neg h0] at h
  split
  ·rename_i hd
   rw [if_pos hd] at h
   unfold remV at h ⊢
   split
   ·rfl
   ·rename_i h1
    rw [if_neg h1] at h
    split
    ·rfl
    ·rename_i h2
     rw [if_neg h2] at h
     exact absurd rfl h
  ·rename_i hd
   rw [if_neg hd] at h
   unfold unlB at h ⊢
   split
   ·rfl
   ·rename_i h1
    rw [if_neg h1] at h
    split
    ·rename_i h2
     rw [if_pos h2] at h
     exact absurd rfl h
    ·rename_i h2
     rw [if_neg h2] at h
     exact absurd rfl h
end Go.Proofs.YtogdjbhjgbnicaaGreatDoor.DirsBm
namespace Go.Proofs.YtogdjbhjgbnicaaGreatDoor.RgN
open Go.RowKit
open Lst KeysM TreeM ViewM ViewKm ViewL WalkL WalkV ViewKs ViewKw
open TreeR (prE)
open ViewR (Sh)
def RangeN (Rep : RepT) : Prop := ∀ ⦃w v s S D⦄ (x y : ByteArray),Rep w v s S D → Lim s → x.size ≤ 200000000000000 → y.size ≤ 200000000000000 → Calls Tryz.prog 25 #[v,.string x,.string y] w fun e w' => ∃ (r : Sh) (S' D' : Nat → Prop),e = .returned (.slice r.a r.n r.c) ∧ Sl prE w' r.a r.n (s.rangeOf x y) ∧ (∀ b o,r.a = some ⟨b,o,none⟩ → w.heap.size ≤ b ∧ ¬ D' b) ∧ Rep w' v (s.ranged x y) S' D' ∧ Stp S D S' D' w w'
theorem ranged_same (s : Vs) (a b : ByteArray) : (s.ranged a b).shown = s.shown ∧ (s.ranged a b).base = s.base ∧ (s.ranged a b).wr = s.wr ∧ (s.ranged a b).rd = s.rd ∧ (s.ranged a b).rg.length ≤ s.rg.length + 1 := by
 unfold Vs.ranged
 split
 ·exact ⟨rfl,rfl,rfl,rfl,ViewP.add_len _ _ _⟩
 ·exact ⟨rfl,rfl,rfl,rfl,Nat.le_succ _⟩
theorem range_v : RangeN ViewK.VRep := by
 rintro w v s S D x y ⟨g,b,sh,wt,rd,rg,rfl,hv,h1,h2,rfl,rfl⟩ hl hx hy
 obtain ⟨l1,l2,l3,l4,l5,l6⟩ := ViewK.lens hl h1
 have key : ∀ (G : List (ByteArray × ByteArray)) (L : List Pr),(s.ranged x y).rg = G → s.rangeOf x y = L → Calls Tryz.prog 25 #[.pointer (some ⟨g,0,none⟩),.string x,.string y] w (RangeR g b sh wt rd rg s.base s.shown (kys s.wr) s.rd G L w) → Calls Tryz.prog 25 #[.pointer (some ⟨g,0,none⟩),.string x,.string y] w fun e w' => ∃ (r : Sh) (S' D' : Nat → Prop),e = .returned (.slice r.a r.n r.c) ∧ Sl prE w' r.a r.n (s.rangeOf x y) ∧ (∀ b o,r.a = some ⟨b,o,none⟩ → w.heap.size ≤ b ∧ ¬ D' b) ∧ ViewK.VRep w' (.pointer (some ⟨g,0,none⟩)) (s.ranged x y) S' D' ∧ Stp (fun q => q = g ∨ rg.ownBlock = some q) (fun q => q = g ∨ rg.ownBlock = some q) S' D' w w' := by
  intro G L hG hL hc
  refine hc.mono ?_
  rintro e w' ⟨u,rg',rfl,ho,hv',hd,hto⟩
  have hne := So.ne ho hv'.rgs (by decide)
  obtain ⟨r,rfl,hsl,hnew⟩ := ViewK.sh_of ho
  refine ⟨r,_,_,rfl,by rw [hL]; exact hsl,fun q o e => ⟨hnew q o e,fun hq => ?_⟩,⟨g,b,sh,wt,rd,rg',rfl,?_,ok_ranged h1 x y,?_,rfl,rfl⟩,hd.chg,hd.kept,ViewK.own_new hto,ViewK.own_new hto⟩
  ·have hob : (Value.slice r.a r.n r.c).ownBlock = some q := by rw [e]; rfl
   rcases hq with rfl | hq
   ·have := hnew q o e
    have := hv.lt
    omega
   ·rcases hne with z | z
    ·rw [hob] at z; cases z
    ·exact z (by rw [hob,hq])
  ·rw [hG]
   have e1 : (s.ranged x y).base = s.base ∧ (s.ranged x y).shown = s.shown ∧ (s.ranged x y).wr = s.wr ∧ (s.ranged x y).rd = s.rd := by
    unfold Vs.ranged
    split <;> exact ⟨rfl,rfl,rfl,rfl⟩
   rw [e1.1,e1.2.1,e1.2.2.1,e1.2.2.2]
   exact hv'
  ·have e1 : (s.ranged x y).wr = s.wr := by
    unfold Vs.ranged
    split <;> rfl
   rw [e1]
   exact h2
 cases hk : kl x y with
 | false =>
   refine key s.rg [] ?_ ?_ (range_none x y hv hk)
   ·unfold Vs.ranged
    rw [hk]
    rfl
   ·unfold Vs.rangeOf
    rw [hk]
    rfl
 | true =>
   cases hh : hasR x y s.rg with
   | true =>
     refine key s.rg (rangeL x y s.shown) ?_ ?_ (range_old x y hv l2 (by omega) hk hh)
     ·unfold Vs.ranged addR
      rw [hk,hh]
      rfl
     ·unfold Vs.rangeOf
      rw [hk]
      rfl
   | false =>
     refine key (s.rg ++ [(x,y)]) (rangeL x y s.shown) ?_ ?_ (range_new x y hv l2 (by omega) hk hh)
     ·unfold Vs.ranged addR
      rw [hk,hh]
      rfl
     ·unfold Vs.rangeOf
      rw [hk]
      rfl
theorem range_n : RangeN WalkK.VRep := fun _ _ _ _ _ x y r hl hx hy => (range_v x y r.1 hl hx hy).mono fun _ _ ⟨q,S',D',e,h1,h2,hr,st⟩ => ⟨q,S',D',e,h1,h2,⟨hr,r.2.ranged x y⟩,st⟩
end Go.Proofs.YtogdjbhjgbnicaaGreatDoor.RgN
namespace Go.Proofs.YtogdjbhjgbnicaaGreatDoor.OpsEm
open Go.RowKit
open Byte PackM KeysM KeysS KeysV KeysB KeysD TreeR ViewM ViewR NodeM WalkM WalkF WalkKm DirsV FileM FileV Lst Chg TreeL ViewL WalkL WalkV Vat WalkKb DirsK DirsKa
open TreeM hiding cutL
open Own hiding keeps
open FileKf (del_next)
open RgN
variable {Rep : RepT}
theorem empty_calls (hW : Wk Rep) (hRn : RangeN Rep) {w : World} {v : Value} {s : Vs} {S D : Nat → Prop} (ino : Int) (hr : Rep w v s S D) (hl : Lim s) (h3 : s.rg.length ≤ 990) (h0 : 0 ≤ ino) (h1 : ino ≤ 4294967295) (hk : ∀ p ∈ s.shown,(sp p.key).letter ≠ 0) :
 Calls Tryz.prog 139 #[v,.int .u32 ino] w (Wrote Rep v s (drpPs s.shown ino 0) 0 1 S D w) := by
 have A0 := hQ_ (At.start hr)
 have HE := hQ_ (fun w => blocks_small ino 0 w h0 h1 (by omega) (by omega))
 have HK := hQ_ hk
 have HS := hQ_ hW.stays
 have HL := hQ_ hl
 have HX := hQ_ hRn
 have HWK := hQ_ hW
 have hn := hW.shown hr hl
 obtain ⟨M,hM⟩ : ∃ M,s.shown.filter (blkF ino 0) = M := ⟨_,rfl⟩
 have HMF := hQ_ hM
 have HM2 : Hid (∀ p ∈ M,p.key.size ≤ 100000 ∧ (sp p.key).letter = 68) := hQ_ (fun p hp => by
  rw [← hM] at hp
  have h3 := List.mem_filter.1 hp
  have h4 := sp_key (HK.out p h3.1)
  have h5 := h3.2
  unfold blkF at h5
  simp only [Bool.and_eq_true,decide_eq_true_eq] at h5
  exact ⟨by omega,h5.1.1⟩)
 have HDR : Hid (drpPs s.shown ino 0 = M.map fun p => delP p.key) := hQ_ (by unfold drpPs; rw [hM])
 rw [HDR.out]
 clear hr hl hk hM hW hRn HDR
 go_enter Tryz.func139,Tryz.ntmps139
 go_wp2_with fail
 refine (HE.out _).mono ?_
 rintro e w2 ⟨a,b,rfl,hrg,ha,hb,hb2⟩
 have A2 := hQ_ (A0.out.below HS.out hb2)
 have HRG : Hid (rangeL a b s.shown = s.shown.filter (blkF ino 0)) := hQ_ (range_ent hrg.out HK.out)
 clear hb2 hrg
 go_wp2_with fail
 refine (HX.out a b A2.out.rep HL.out (by omega) (by omega)).mono ?_
 rintro e w3 ⟨⟨ra,rn,rc⟩,S3,D3,rfl,hsl,hnew,hr3,st3⟩
 rw [rangeOf_is,HRG.out,HMF.out] at hsl
 dsimp only at hsl hnew
 have A3 : Hid (At Rep w S D (fun b => 0 < rn ∧ ∃ o,ra = some ⟨b,o,none⟩) w3 v (s.ranged a b) S3 D3) := hQ_ (by
  have q := A2.out.step HS.out hr3 st3
  refine ⟨q.rep,q.st,fun b ⟨hpos,o,e⟩ => ?_⟩
  have h5 := hnew b o e
  obtain ⟨x,b',o',hx,he,hlt,_⟩ := hsl.get 0 hpos
  rw [e] at he
  injection he with he
  injection he with he _
  subst he
  exact ⟨Nat.le_trans A2.out.size h5.1,hlt,h5.2⟩)
 obtain ⟨q1,q2,q3,q4,q5⟩ := ranged_same s a b
 have HSM : Hid (Aft s (s.ranged a b) [] 0 1) := hQ_ (Aft.nil ⟨q2,q3⟩ (by rw [q4]; exact Nat.le_refl _) q5)
 obtain ⟨s0,hs0⟩ : ∃ s0,s.ranged a b = s0 := ⟨_,rfl⟩
 rw [hs0] at A3 HSM
 clear q1 q2 q3 q4 q5 hs0
 have HLR := hQ_ hsl
 have hrn : rn ≤ 100000 := by
  rw [← hsl.1,← HMF.out]
  exact Nat.le_trans (List.length_filter_le _ _) hn
 clear hsl hnew hr3 st3 ha hb
 go_wp2_with fail
 go_loopw [18] (fun i wr => ∃ (k : Nat) (s1 : Vs) (S' D' : Nat → Prop),i = .int .i64 k ∧ k ≤ rn ∧ Hid (At Rep w S D (fun b => 0 < rn ∧ ∃ o,ra = some ⟨b,o,none⟩) wr v s1 S' D') ∧ Hid (Sl prE wr ra rn M) ∧ Hid (Aft s s1 ((M.take k).map fun p => delP p.key) 0 1 ∧ (goW s ((M.take k).map fun p => delP p.key)).2 = true)) (fun i _ => rn - (intOf i).toNat)
 case atStart => exact ⟨0,s0,S3,D3,rfl,Nat.zero_le _,A3,HLR,hQ_ ⟨HSM.out,rfl⟩⟩
 case round =>
  obtain ⟨k,s1,S',D',rfl,hk,HA,HL1,HC⟩ := hrel
  by_cases hlt : k < rn
  ·obtain ⟨x,g,o,hx,rfl,hg,hcl⟩ := HL1.out.get k hlt
   obtain ⟨c1,c2,c3,hcc⟩ := pair_cells hcl
   have hmx := HM2.out x (List.mem_of_getElem? hx)
   have HNX := hQ_ (del_next hx)
   have HSP := hQ_ (fun w => split_calls x.key w hmx.1)
   unfold SpE at HSP
   have HCT := hQ_ (fun (w1 : World) (S1 D1 : Nat → Prop) (hr1 : Rep w1 v s1 S1 D1) => cut_w HWK.out x.key hr1 (lim_aft HC.out.1 HL.out (by have := HL.out.rd; omega) (by have := HL.out.rg; omega)) hmx.1)
   have HRS : Hid ((M.take (k + 1)).map (fun p => delP p.key) ++ (M.drop (k + 1)).map (fun p => delP p.key) = M.map fun p => delP p.key) := hQ_ (by rw [← List.map_append,List.take_append_drop])
   have hlet := hmx.2
   obtain ⟨xk,xv,xg⟩ := x
   dsimp only at *
   rw [hlet] at HSP
   clear hcl hx hmx hlet
   generalize (sp xk).ino = X2 at *
   generalize (sp xk).name = X3 at *
   generalize (sp xk).n = X4 at *
   have R4 := hQ_ (Blk.new_ wr #[.string xk,.string xv,.bool xg] 64)
   have hbp := bX_ R4.out
   have A4 := hQ_ ((HA.out.own HS.out hbp (Nat.le_refl wr.heap.size) (by simp)))
   have L4 := hQ_ (HL1.out.below hbp)
   clear hbp
   go_wp2_with ((with_reducible refine pick (some 21) ?_); refine wpList_load_mid rfl 64 _ rfl g (o + k * 3) rfl _ _ hcc Tryz.underlying64 rfl info_pair3 ?_)
   refine (HSP.out _).mono ?_
   rintro e w5 ⟨rfl,hb5⟩
   have A5 := hQ_ (A4.out.below HS.out hb5)
   have L5 := hQ_ (L4.out.below hb5)
   have R5 := hQ_ (R4.out.below hb5)
   have p0 := cZ0 R5.out
   clear hb5 c1 c2 c3 hcc
   go_wp2_with fail
   refine (HCT.out _ _ _ A5.out.rep).mono ?_
   intro e w6 h6
   rcases Wrote.split h6 with ⟨s6,S6,D6,rfl,hg6,hr6,st6,af6⟩ | ⟨s6,S6,D6,rfl,hg6,hr6,st6,af6⟩
   ·have A6 := hQ_ ((A5.out.step HS.out hr6 st6).less (M' := fun b' => 0 < rn ∧ ∃ o',(some ⟨g,o,none⟩ : Option Addr) = some ⟨b',o',none⟩) (fun b hb => .inl hb))
    have L6 := hQ_ (A5.out.sl HS.out L5.out (fun b' o' e => .inl ⟨by omega,o',e⟩) st6)
    have C6 : Hid (Aft s s6 ((M.take (k + 1)).map fun p => delP p.key) 0 1 ∧ (goW s ((M.take (k + 1)).map fun p => delP p.key)).2 = true) := hQ_ (by
     have q := HC.out.1.app HC.out.2 af6
     rw [HNX.out]
     exact ⟨q.1,q.2.trans hg6⟩)
    clear h6 hr6 st6 af6 hg6
    go_wp2_with fail
    go_roundw
    case rel => exact ⟨k + 1,s6,S6,D6,by go_num,by omega,A6,L6,C6⟩
    case measure => simp [intOf]; omega
   ·have A6 := hQ_ (A5.out.step HS.out hr6 st6)
    have C6 : Hid (Aft s s6 (M.map fun p => delP p.key) 0 1 ∧ (goW s (M.map fun p => delP p.key)).2 = false) := hQ_ (by
     have q := HC.out.1.app HC.out.2 af6
     rw [← HRS.out,HNX.out]
     exact q.1.stop (q.2.trans hg6))
    clear h6 hr6 st6 af6 hg6
    go_wp2_with fail
    go_ret
    exact ⟨s6,S6,D6,by rw [C6.out.2]; rfl,A6.out.rep,A6.out.st,C6.out.1⟩
  ·obtain rfl : k = rn := by omega
   have hM : M.take k = M := List.take_of_length_le (by rw [HLR.out.1]; exact Nat.le_refl _)
   have hC := HC.out
   rw [hM] at hC
   have C9 := hQ_ hC
   clear hC
   go_wp2_with fail
   go_ret
   exact ⟨s1,S',D',by rw [C9.out.2]; rfl,HA.out.rep,HA.out.st,C9.out.1⟩
end Go.Proofs.YtogdjbhjgbnicaaGreatDoor.OpsEm
namespace Go.Proofs.YtogdjbhjgbnicaaGreatDoor.DirsBk
open Go.RowKit
open Byte KeysM TreeM ViewM ViewKm NodeM NamesM NamesL WalkM WalkF WalkKm DirsV Lst Chg TreeL ViewL WalkL WalkV Vat WalkKa WalkKb DirsK DirsKa
open Own hiding keeps
open DirsKb DirsBm RgN
open FileV (drpPs)
variable {Rep : RepT}
theorem unlink_no (hW0 : Wk Rep) {w : World} {v : Value} {s : Vs} {S D : Nat → Prop} (xd xi xk xl xz xp : Int) (xn : ByteArray) (hr : Rep w v s S D) (hl : Lim s) (h2 : s.rd.length ≤ 19900) (h3 : s.rg.length ≤ 990) (hd0 : 0 ≤ xd) (hd1 : xd ≤ 4294967295) (hi0 : 0 ≤ xi) (hi1 : xi ≤ 4294967295) (hn0 : xn.size ≤ 100000) (hb : InoB xk xl xz xp) (hk : ∀ p ∈ s.shown,(sp p.key).letter ≠ 0) (h1 : xk ≠ 1) :
 Calls Tryz.prog 115 #[v,.agg #[.int .u32 xd,.string xn,.int .u32 xi,.int .u8 xk,.int .u32 xl,.int .u32 xz,.int .u32 xp]] w (Ans Rep v s 13 [] 1 1 S D w) := by
 obtain ⟨W,hW⟩ : ∃ W,w.alloc (.cells #[.int .u32 xd,.string xn,.int .u32 xi,.int .u8 xk,.int .u32 xl,.int .u32 xz,.int .u32 xp] 150) = W := ⟨_,rfl⟩
 have hb1 : Below w.heap.size w W := by rw [← hW]; exact bW_
 have hX0 : Blk W w.heap.size #[.int .u32 xd,.string xn,.int .u32 xi,.int .u8 xk,.int .u32 xl,.int .u32 xz,.int .u32 xp] 150 := hW ▸ Blk.new_ w _ _
 obtain ⟨x0,x1,x2,x3,x4,x5,x6⟩ : W.cell? ⟨w.heap.size,0,none⟩ = some (.int .u32 xd) ∧ W.cell? ⟨w.heap.size,1,none⟩ = some (.string xn) ∧ W.cell? ⟨w.heap.size,2,none⟩ = some (.int .u32 xi) ∧ W.cell? ⟨w.heap.size,3,none⟩ = some (.int .u8 xk) ∧ W.cell? ⟨w.heap.size,4,none⟩ = some (.int .u32 xl) ∧ W.cell? ⟨w.heap.size,5,none⟩ = some (.int .u32 xz) ∧ W.cell? ⟨w.heap.size,6,none⟩ = some (.int .u32 xp) := ⟨hX0.cell 0,hX0.cell 1,hX0.cell 2,hX0.cell 3,hX0.cell 4,hX0.cell 5,hX0.cell 6⟩
 obtain ⟨U,hU⟩ : ∃ U,W.alloc (.cells #[.int .u8 xk,.int .u32 xl,.int .u32 xz,.int .u32 xp] 46) = U := ⟨_,rfl⟩
 have hWs : W.heap.size = w.heap.size + 1 := by rw [← hW]; simp
 have hbU : Below W.heap.size W U := by rw [← hU]; exact bW_
 have A0 : Hid (At Rep w S D (fun b => (False ∨ b = w.heap.size) ∨ b = w.heap.size + 1) U v s S D) := hQ_ (by
  rw [← hWs]
  exact ((At.start hr).own hW0.stays hb1 (Nat.le_refl w.heap.size) (by omega)).own hW0.stays hbU (Nat.le_refl _) (by rw [← hU]; simp))
 have X0 := hQ_ (hX0.below hbU)
 have Y0 := hQ_ (show Blk U (w.heap.size + 1) #[.int .u8 xk,.int .u32 xl,.int .u32 xz,.int .u32 xp] 46 by rw [← hWs,← hU]; exact Blk.new_ W _ _)
 have HW := hQ_ hW
 have HU := hQ_ hU
 have C0 := hQ_ (aft0 s)
 have d1 : (xk != 1) = true := by simpa using h1
 clear h1 hk hb
 have f0_X0 := cC7 X0.out
 have f0_Y0 := cC4 Y0.out
 clear hr hl hW hU hb1 hbU hX0
 go_enter Tryz.func115,Tryz.ntmps115
 go_wp2_with fail
 rw [HW.out]
 go_wp2_with fail
 rw [HU.out]
 go_wp2_with fail
 go_ret
 exact Ans.ok A0.out ⟨C0.out.1.more (by omega) (by omega),C0.out.2⟩
theorem unlink_more (hW0 : Wk Rep) {w : World} {v : Value} {s : Vs} {S D : Nat → Prop} (xd xi xk xl xz xp : Int) (xn : ByteArray) (hr : Rep w v s S D) (hl : Lim s) (h2 : s.rd.length ≤ 19900) (h3 : s.rg.length ≤ 990) (hd0 : 0 ≤ xd) (hd1 : xd ≤ 4294967295) (hi0 : 0 ≤ xi) (hi1 : xi ≤ 4294967295) (hn0 : xn.size ≤ 100000) (hb : InoB xk xl xz xp) (hk : ∀ p ∈ s.shown,(sp p.key).letter ≠ 0) (h1 : xk = 1) (hl1 : 1 < xl) :
 Calls Tryz.prog 115 #[v,.agg #[.int .u32 xd,.string xn,.int .u32 xi,.int .u8 xk,.int .u32 xl,.int .u32 xz,.int .u32 xp]] w (Ans Rep v s 0 [unhangP xd xn,saveP xi xk (xl - 1) xz xp] 1 1 S D w) := by
 obtain ⟨W,hW⟩ : ∃ W,w.alloc (.cells #[.int .u32 xd,.string xn,.int .u32 xi,.int .u8 xk,.int .u32 xl,.int .u32 xz,.int .u32 xp] 150) = W := ⟨_,rfl⟩
 have hb1 : Below w.heap.size w W := by rw [← hW]; exact bW_
 have hX0 : Blk W w.heap.size #[.int .u32 xd,.string xn,.int .u32 xi,.int .u8 xk,.int .u32 xl,.int .u32 xz,.int .u32 xp] 150 := hW ▸ Blk.new_ w _ _
 obtain ⟨x0,x1,x2,x3,x4,x5,x6⟩ : W.cell? ⟨w.heap.size,0,none⟩ = some (.int .u32 xd) ∧ W.cell? ⟨w.heap.size,1,none⟩ = some (.string xn) ∧ W.cell? ⟨w.heap.size,2,none⟩ = some (.int .u32 xi) ∧ W.cell? ⟨w.heap.size,3,none⟩ = some (.int .u8 xk) ∧ W.cell? ⟨w.heap.size,4,none⟩ = some (.int .u32 xl) ∧ W.cell? ⟨w.heap.size,5,none⟩ = some (.int .u32 xz) ∧ W.cell? ⟨w.heap.size,6,none⟩ = some (.int .u32 xp) := ⟨hX0.cell 0,hX0.cell 1,hX0.cell 2,hX0.cell 3,hX0.cell 4,hX0.cell 5,hX0.cell 6⟩
 obtain ⟨U,hU⟩ : ∃ U,W.alloc (.cells #[.int .u8 xk,.int .u32 xl,.int .u32 xz,.int .u32 xp] 46) = U := ⟨_,rfl⟩
 have hWs : W.heap.size = w.heap.size + 1 := by rw [← hW]; simp
 have hbU : Below W.heap.size W U := by rw [← hU]; exact bW_
 have A0 : Hid (At Rep w S D (fun b => (False ∨ b = w.heap.size) ∨ b = w.heap.size + 1) U v s S D) := hQ_ (by
  rw [← hWs]
  exact ((At.start hr).own hW0.stays hb1 (Nat.le_refl w.heap.size) (by omega)).own hW0.stays hbU (Nat.le_refl _) (by rw [← hU]; simp))
 have X0 := hQ_ (hX0.below hbU)
 have Y0 := hQ_ (show Blk U (w.heap.size + 1) #[.int .u8 xk,.int .u32 xl,.int .u32 xz,.int .u32 xp] 46 by rw [← hWs,← hU]; exact Blk.new_ W _ _)
 have HW := hQ_ hW
 have HU := hQ_ hU
 have HS := hQ_ hW0.stays
 have HWK := hQ_ hW0
 have HL := hQ_ hl
 have HRO := hQ_ room_calls
 have C0 := hQ_ (aft0 s)
 have d1 : (xk != 1) = false := by simpa using h1
 have d2 : decide ((1 : Int) < xl) = true := by simpa using hl1
 obtain ⟨b0,b1,b2,b3,b4,b5,b6,b7⟩ := hb
 clear hk h1
 have f0_X0 := cC7 X0.out
 have f0_Y0 := cC4 Y0.out
 clear hr hl hW hU hb1 hbU hX0
 go_enter Tryz.func115,Tryz.ntmps115
 go_wp2_with fail
 rw [HW.out]
 go_wp2_with fail
 rw [HU.out]
 go_wp2_with fail
 refine (unhang_w HWK.out xd xn A0.out.rep (lim_aft C0.out.1 HL.out (by omega) (by omega)) (by omega) (by omega) (by omega)).mono ?_
 intro e w1 hh
 rcases Wrote.split hh with ⟨s1,S1,D1,rfl,ho,hr,st,ha⟩ | ⟨s1,S1,D1,rfl,ho,hr,st,ha⟩
 ·obtain ⟨x1,x2⟩ := C0.out.1.app C0.out.2 ha
  have C1 := hQ_ (And.intro x1 (x2.trans ho))
  clear x1 x2 ho ha
  have A1 := hQ_ (A0.out.step HS.out hr st)
  have X1 := hQ_ (A0.out.blk HS.out X0.out (.inl (.inr rfl)) st)
  have Y1 := hQ_ (A0.out.blk HS.out Y0.out (.inr rfl) st)
  obtain ⟨f1_X0,f1_X1,f1_X2,f1_X3,f1_X4,f1_X5,f1_X6⟩ := cC7 X1.out
  obtain ⟨f1_Y0,f1_Y1,f1_Y2,f1_Y3⟩ := cC4 Y1.out
  clear st hr f0_X0 f0_Y0
  have y1 : w1.frozen? ⟨w.heap.size + 1,1,none⟩ = false := Y1.out.frozen 1
  have AZ := hQ_ (A1.out.set HS.out Y1.out (.inr rfl) (by decide) 1 (.int .u32 (xl - 1)))
  have hYZ := Y1.out.set_ 1 (.int .u32 (xl - 1))
  have YZ := hQ_ (show Blk (w1.setCell ⟨w.heap.size + 1,1,none⟩ (.int .u32 (xl - 1))) (w.heap.size + 1) #[.int .u8 xk,.int .u32 (xl - 1),.int .u32 xz,.int .u32 xp] 46 from hYZ)
  have XZ := hQ_ (X1.out.far (p := ⟨w.heap.size + 1,1,none⟩) (show w.heap.size ≠ w.heap.size + 1 by omega) (.int .u32 (xl - 1)))
  clear hYZ
  have f99_X0 := cC7 XZ.out
  have f99_Y0 := cC4 YZ.out
  go_wp2_with fail
  refine (save_w HWK.out xi xk (xl - 1) xz xp AZ.out.rep (lim_aft C1.out.1 HL.out (by omega) (by omega)) (by omega) (by omega) ⟨by omega,by omega,by omega,by omega,by omega,by omega,by omega,by omega⟩).mono ?_
  intro e w2 hh
  rcases Wrote.split hh with ⟨s2,S2,D2,rfl,ho,hr,st,ha⟩ | ⟨s2,S2,D2,rfl,ho,hr,st,ha⟩
  ·obtain ⟨x1,x2⟩ := C1.out.1.app C1.out.2 ha
   have C2 := hQ_ (And.intro x1 (x2.trans ho))
   clear x1 x2 ho ha
   have A2 := hQ_ (AZ.out.step HS.out hr st)
   have X2 := hQ_ (AZ.out.blk HS.out XZ.out (.inl (.inr rfl)) st)
   have Y2 := hQ_ (AZ.out.blk HS.out YZ.out (.inr rfl) st)
   obtain ⟨f2_X0,f2_X1,f2_X2,f2_X3,f2_X4,f2_X5,f2_X6⟩ := cC7 X2.out
   obtain ⟨f2_Y0,f2_Y1,f2_Y2,f2_Y3⟩ := cC4 Y2.out
   clear st hr y1 f1_X0 f1_X1 f1_X2 f1_X3 f1_X4 f1_X5 f1_X6 f1_Y0 f1_Y1 f1_Y2 f1_Y3 f99_X0 f99_Y0
   go_wp2_with (go_at_call 104; refine (HRO.out _ _).mono ?_; rintro e w9 ⟨rfl,rfl⟩)
   go_ret
   exact Ans.ok A2.out ⟨C2.out.1.more (by omega) (by omega),C2.out.2⟩
  ·obtain ⟨x1,x2⟩ := C1.out.1.app C1.out.2 ha
   have C2 := hQ_ (And.intro x1 (x2.trans ho))
   clear x1 x2 ho ha
   have A2 := hQ_ (AZ.out.step HS.out hr st)
   have X2 := hQ_ (AZ.out.blk HS.out XZ.out (.inl (.inr rfl)) st)
   have Y2 := hQ_ (AZ.out.blk HS.out YZ.out (.inr rfl) st)
   obtain ⟨f2_X0,f2_X1,f2_X2,f2_X3,f2_X4,f2_X5,f2_X6⟩ := cC7 X2.out
   obtain ⟨f2_Y0,f2_Y1,f2_Y2,f2_Y3⟩ := cC4 Y2.out
   clear st hr y1 f1_X0 f1_X1 f1_X2 f1_X3 f1_X4 f1_X5 f1_X6 f1_Y0 f1_Y1 f1_Y2 f1_Y3 f99_X0 f99_Y0
   go_wp2_with (go_at_call 104; refine (HRO.out _ _).mono ?_; rintro e w9 ⟨rfl,rfl⟩)
   go_ret
   exact Ans.full A2.out ⟨(Aft.stop (qs := []) C2.out.1 C2.out.2).1.more (by omega) (by omega),(Aft.stop (qs := []) C2.out.1 C2.out.2).2⟩
 ·obtain ⟨x1,x2⟩ := C0.out.1.app C0.out.2 ha
  have C1 := hQ_ (And.intro x1 (x2.trans ho))
  clear x1 x2 ho ha
  have A1 := hQ_ (A0.out.step HS.out hr st)
  have X1 := hQ_ (A0.out.blk HS.out X0.out (.inl (.inr rfl)) st)
  have Y1 := hQ_ (A0.out.blk HS.out Y0.out (.inr rfl) st)
  obtain ⟨f1_X0,f1_X1,f1_X2,f1_X3,f1_X4,f1_X5,f1_X6⟩ := cC7 X1.out
  obtain ⟨f1_Y0,f1_Y1,f1_Y2,f1_Y3⟩ := cC4 Y1.out
  clear st hr f0_X0 f0_Y0
  go_wp2_with fail
  go_ret
  exact Ans.full A1.out ⟨(Aft.stop (qs := [saveP xi xk (xl - 1) xz xp]) C1.out.1 C1.out.2).1.more (by omega) (by omega),(Aft.stop (qs := [saveP xi xk (xl - 1) xz xp]) C1.out.1 C1.out.2).2⟩
theorem unlink_last (hW0 : Wk Rep) (hRn : RangeN Rep) {w : World} {v : Value} {s : Vs} {S D : Nat → Prop} (xd xi xk xl xz xp : Int) (xn : ByteArray) (hr : Rep w v s S D) (hl : Lim s) (h2 : s.rd.length ≤ 19900) (h3 : s.rg.length ≤ 985) (hd0 : 0 ≤ xd) (hd1 : xd ≤ 4294967295) (hi0 : 0 ≤ xi) (hi1 : xi ≤ 4294967295) (hn0 : xn.size ≤ 100000) (hb : InoB xk xl xz xp) (hk : ∀ p ∈ s.shown,(sp p.key).letter ≠ 0) (h1 : xk = 1) (hl1 : xl ≤ 1) (hnm : xn.size ≤ 32) :
 Calls Tryz.prog 115 #[v,.agg #[.int .u32 xd,.string xn,.int .u32 xi,.int .u8 xk,.int .u32 xl,.int .u32 xz,.int .u32 xp]] w (Ans Rep v s 0 ([unhangP xd xn] ++ drpPs s.shown xi 0 ++ [dropP xi]) 1 1 S D w) := by
 obtain ⟨W,hW⟩ : ∃ W,w.alloc (.cells #[.int .u32 xd,.string xn,.int .u32 xi,.int .u8 xk,.int .u32 xl,.int .u32 xz,.int .u32 xp] 150) = W := ⟨_,rfl⟩
 have hb1 : Below w.heap.size w W := by rw [← hW]; exact bW_
 have hX0 : Blk W w.heap.size #[.int .u32 xd,.string xn,.int .u32 xi,.int .u8 xk,.int .u32 xl,.int .u32 xz,.int .u32 xp] 150 := hW ▸ Blk.new_ w _ _
 obtain ⟨x0,x1,x2,x3,x4,x5,x6⟩ : W.cell? ⟨w.heap.size,0,none⟩ = some (.int .u32 xd) ∧ W.cell? ⟨w.heap.size,1,none⟩ = some (.string xn) ∧ W.cell? ⟨w.heap.size,2,none⟩ = some (.int .u32 xi) ∧ W.cell? ⟨w.heap.size,3,none⟩ = some (.int .u8 xk) ∧ W.cell? ⟨w.heap.size,4,none⟩ = some (.int .u32 xl) ∧ W.cell? ⟨w.heap.size,5,none⟩ = some (.int .u32 xz) ∧ W.cell? ⟨w.heap.size,6,none⟩ = some (.int .u32 xp) := ⟨hX0.cell 0,hX0.cell 1,hX0.cell 2,hX0.cell 3,hX0.cell 4,hX0.cell 5,hX0.cell 6⟩
 obtain ⟨U,hU⟩ : ∃ U,W.alloc (.cells #[.int .u8 xk,.int .u32 xl,.int .u32 xz,.int .u32 xp] 46) = U := ⟨_,rfl⟩
 have hWs : W.heap.size = w.heap.size + 1 := by rw [← hW]; simp
 have hbU : Below W.heap.size W U := by rw [← hU]; exact bW_
 have A0 : Hid (At Rep w S D (fun b => (False ∨ b = w.heap.size) ∨ b = w.heap.size + 1) U v s S D) := hQ_ (by
  rw [← hWs]
  exact ((At.start hr).own hW0.stays hb1 (Nat.le_refl w.heap.size) (by omega)).own hW0.stays hbU (Nat.le_refl _) (by rw [← hU]; simp))
 have X0 := hQ_ (hX0.below hbU)
 have Y0 := hQ_ (show Blk U (w.heap.size + 1) #[.int .u8 xk,.int .u32 xl,.int .u32 xz,.int .u32 xp] 46 by rw [← hWs,← hU]; exact Blk.new_ W _ _)
 have HW := hQ_ hW
 have HU := hQ_ hU
 have HS := hQ_ hW0.stays
 have HWK := hQ_ hW0
 have HL := hQ_ hl
 have HRO := hQ_ room_calls
 have C0 := hQ_ (aft0 s)
 have HEM := hQ_ (fun w (S D : Nat → Prop) (t : Vs) (hr : Rep w v t S D) (hl : Lim t) (hg : t.rg.length ≤ 990) h1 => OpsEm.empty_calls hW0 hRn xi hr hl hg hi0 hi1 h1)
 have HDR := hQ_ (drp_unhang (hW0.stays.ok hr) xd xn hd0 hd1 xi)
 obtain ⟨EP,hEP⟩ : ∃ EP,drpPs s.shown xi 0 = EP := ⟨_,rfl⟩
 rw [hEP] at HDR ⊢
 clear hEP
 have d1 : (xk != 1) = false := by simpa using h1
 have d2 : decide ((1 : Int) < xl) = false := by simpa using hl1
 obtain ⟨b0,b1,b2,b3,b4,b5,b6,b7⟩ := hb
 have HSUB := hQ_ (cut_sub (hW0.stays.ok hr) (kE xd xn))
 have HKK := hQ_ hk
 clear hk h1
 have f0_X0 := cC7 X0.out
 have f0_Y0 := cC4 Y0.out
 clear hr hl hW hU hb1 hbU hX0
 go_enter Tryz.func115,Tryz.ntmps115
 go_wp2_with fail
 rw [HW.out]
 go_wp2_with fail
 rw [HU.out]
 go_wp2_with fail
 refine (unhang_w HWK.out xd xn A0.out.rep (lim_aft C0.out.1 HL.out (by omega) (by omega)) (by omega) (by omega) (by omega)).mono ?_
 intro e w1 hh
 rcases Wrote.split hh with ⟨s1,S1,D1,rfl,ho,hr,st,ha⟩ | ⟨s1,S1,D1,rfl,ho,hr,st,ha⟩
 ·obtain ⟨x1,x2⟩ := C0.out.1.app C0.out.2 ha
  have C1 := hQ_ (And.intro x1 (x2.trans ho))
  clear x1 x2 ho ha
  have A1 := hQ_ (A0.out.step HS.out hr st)
  have X1 := hQ_ (A0.out.blk HS.out X0.out (.inl (.inr rfl)) st)
  have Y1 := hQ_ (A0.out.blk HS.out Y0.out (.inr rfl) st)
  obtain ⟨f1_X0,f1_X1,f1_X2,f1_X3,f1_X4,f1_X5,f1_X6⟩ := cC7 X1.out
  obtain ⟨f1_Y0,f1_Y1,f1_Y2,f1_Y3⟩ := cC4 Y1.out
  clear st hr f0_X0 f0_Y0
  go_wp2_with fail
  have hem := HEM.out _ _ _ _ A1.out.rep (lim_aft C1.out.1 HL.out (by omega) (by omega)) (by have := C1.out.1.rg; omega) (fun p hp => HKK.out p (HSUB.out p (by rw [← unh_sm C1.out.1]; exact hp)))
  rw [unh_sm C1.out.1,HDR.out] at hem
  have HE1 := hQ_ hem
  clear hem
  refine HE1.out.mono ?_
  intro e w2 hh
  rcases Wrote.split hh with ⟨s2,S2,D2,rfl,ho,hr,st,ha⟩ | ⟨s2,S2,D2,rfl,ho,hr,st,ha⟩
  ·obtain ⟨x1,x2⟩ := C1.out.1.app C1.out.2 ha
   have C2 := hQ_ (And.intro x1 (x2.trans ho))
   clear x1 x2 ho ha
   have A2 := hQ_ (A1.out.step HS.out hr st)
   have X2 := hQ_ (A1.out.blk HS.out X1.out (.inl (.inr rfl)) st)
   have Y2 := hQ_ (A1.out.blk HS.out Y1.out (.inr rfl) st)
   obtain ⟨f2_X0,f2_X1,f2_X2,f2_X3,f2_X4,f2_X5,f2_X6⟩ := cC7 X2.out
   obtain ⟨f2_Y0,f2_Y1,f2_Y2,f2_Y3⟩ := cC4 Y2.out
   clear st hr f1_X0 f1_X1 f1_X2 f1_X3 f1_X4 f1_X5 f1_X6 f1_Y0 f1_Y1 f1_Y2 f1_Y3
   go_wp2_with fail
   refine (drop_w HWK.out xi A2.out.rep (lim_aft C2.out.1 HL.out (by omega) (by omega)) (by omega) (by omega)).mono ?_
   intro e w3 hh
   rcases Wrote.split hh with ⟨s3,S3,D3,rfl,ho,hr,st,ha⟩ | ⟨s3,S3,D3,rfl,ho,hr,st,ha⟩
   ·obtain ⟨x1,x2⟩ := C2.out.1.app C2.out.2 ha
    have C3 := hQ_ (And.intro x1 (x2.trans ho))
    clear x1 x2 ho ha
    have A3 := hQ_ (A2.out.step HS.out hr st)
    have X3 := hQ_ (A2.out.blk HS.out X2.out (.inl (.inr rfl)) st)
    have Y3 := hQ_ (A2.out.blk HS.out Y2.out (.inr rfl) st)
    obtain ⟨f3_X0,f3_X1,f3_X2,f3_X3,f3_X4,f3_X5,f3_X6⟩ := cC7 X3.out
    obtain ⟨f3_Y0,f3_Y1,f3_Y2,f3_Y3⟩ := cC4 Y3.out
    clear st hr f2_X0 f2_X1 f2_X2 f2_X3 f2_X4 f2_X5 f2_X6 f2_Y0 f2_Y1 f2_Y2 f2_Y3
    go_wp2_with (go_at_call 104; refine (HRO.out _ _).mono ?_; rintro e w9 ⟨rfl,rfl⟩)
    go_ret
    exact Ans.ok A3.out ⟨C3.out.1.more (by omega) (by omega),C3.out.2⟩
   ·obtain ⟨x1,x2⟩ := C2.out.1.app C2.out.2 ha
    have C3 := hQ_ (And.intro x1 (x2.trans ho))
    clear x1 x2 ho ha
    have A3 := hQ_ (A2.out.step HS.out hr st)
    have X3 := hQ_ (A2.out.blk HS.out X2.out (.inl (.inr rfl)) st)
    have Y3 := hQ_ (A2.out.blk HS.out Y2.out (.inr rfl) st)
    obtain ⟨f3_X0,f3_X1,f3_X2,f3_X3,f3_X4,f3_X5,f3_X6⟩ := cC7 X3.out
    obtain ⟨f3_Y0,f3_Y1,f3_Y2,f3_Y3⟩ := cC4 Y3.out
    clear st hr f2_X0 f2_X1 f2_X2 f2_X3 f2_X4 f2_X5 f2_X6 f2_Y0 f2_Y1 f2_Y2 f2_Y3
    go_wp2_with (go_at_call 104; refine (HRO.out _ _).mono ?_; rintro e w9 ⟨rfl,rfl⟩)
    go_ret
    exact Ans.full A3.out ⟨C3.out.1.more (by omega) (by omega),C3.out.2⟩
  ·obtain ⟨x1,x2⟩ := C1.out.1.app C1.out.2 ha
   have C2 := hQ_ (And.intro x1 (x2.trans ho))
   clear x1 x2 ho ha
   have A2 := hQ_ (A1.out.step HS.out hr st)
   have X2 := hQ_ (A1.out.blk HS.out X1.out (.inl (.inr rfl)) st)
   have Y2 := hQ_ (A1.out.blk HS.out Y1.out (.inr rfl) st)
   obtain ⟨f2_X0,f2_X1,f2_X2,f2_X3,f2_X4,f2_X5,f2_X6⟩ := cC7 X2.out
   obtain ⟨f2_Y0,f2_Y1,f2_Y2,f2_Y3⟩ := cC4 Y2.out
   clear st hr f1_X0 f1_X1 f1_X2 f1_X3 f1_X4 f1_X5 f1_X6 f1_Y0 f1_Y1 f1_Y2 f1_Y3
   go_wp2_with (go_at_call 104; refine (HRO.out _ _).mono ?_; rintro e w9 ⟨rfl,rfl⟩)
   go_ret
   exact Ans.full A2.out ⟨(Aft.stop (qs := [dropP xi]) C2.out.1 C2.out.2).1.more (by omega) (by omega),(Aft.stop (qs := [dropP xi]) C2.out.1 C2.out.2).2⟩
 ·obtain ⟨x1,x2⟩ := C0.out.1.app C0.out.2 ha
  have C1 := hQ_ (And.intro x1 (x2.trans ho))
  clear x1 x2 ho ha
  have A1 := hQ_ (A0.out.step HS.out hr st)
  have X1 := hQ_ (A0.out.blk HS.out X0.out (.inl (.inr rfl)) st)
  have Y1 := hQ_ (A0.out.blk HS.out Y0.out (.inr rfl) st)
  obtain ⟨f1_X0,f1_X1,f1_X2,f1_X3,f1_X4,f1_X5,f1_X6⟩ := cC7 X1.out
  obtain ⟨f1_Y0,f1_Y1,f1_Y2,f1_Y3⟩ := cC4 Y1.out
  clear st hr f0_X0 f0_Y0
  go_wp2_with fail
  go_ret
  exact Ans.full A1.out ⟨(Aft.stop (qs := EP ++ [dropP xi]) C1.out.1 C1.out.2).1.more (by omega) (by omega),(Aft.stop (qs := EP ++ [dropP xi]) C1.out.1 C1.out.2).2⟩
end Go.Proofs.YtogdjbhjgbnicaaGreatDoor.DirsBk
namespace Go.Proofs.YtogdjbhjgbnicaaGreatDoor.DirsBd
open Go.RowKit
open Byte KeysM TreeM ViewM ViewKm NodeM NodeG NamesM NamesL WalkM WalkF WalkKm DirsV Lst Chg TreeL ViewL WalkL WalkV Vat WalkKa WalkKb DirsK DirsKa DirsKb DirsKc
open Own hiding keeps
open DirsKd
open DirsBm RgN
open FileV (drpPs)
variable {Rep : RepT}
theorem unlink_calls (hW0 : Wk Rep) (hRn : RangeN Rep) {w : World} {v : Value} {s : Vs} {S D : Nat → Prop} (xd xi xk xl xz xp : Int) (xn : ByteArray) (hr : Rep w v s S D) (hl : Lim s) (h2 : s.rd.length ≤ 19900) (h3 : s.rg.length ≤ 985) (hd0 : 0 ≤ xd) (hd1 : xd ≤ 4294967295) (hi0 : 0 ≤ xi) (hi1 : xi ≤ 4294967295) (hn0 : xn.size ≤ 32) (hb : InoB xk xl xz xp) (hk : ∀ p ∈ s.shown,(sp p.key).letter ≠ 0) :
 Calls Tryz.prog 115 #[v,.agg #[.int .u32 xd,.string xn,.int .u32 xi,.int .u8 xk,.int .u32 xl,.int .u32 xz,.int .u32 xp]] w (Ans Rep v s (unlB s.shown ⟨xd,xn,xi,⟨xk,xl,xz,xp⟩⟩).1 (unlB s.shown ⟨xd,xn,xi,⟨xk,xl,xz,xp⟩⟩).2 1 1 S D w) := by
 unfold unlB
 dsimp only
 by_cases h1 : xk = 1
 ·rw [if_neg (fun h => h h1)]
  by_cases hl1 : 1 < xl
  ·rw [if_pos hl1]
   exact DirsBk.unlink_more hW0 xd xi xk xl xz xp xn hr hl h2 (by omega) hd0 hd1 hi0 hi1 (by omega) hb hk h1 hl1
  ·rw [if_neg hl1]
   exact DirsBk.unlink_last hW0 hRn xd xi xk xl xz xp xn hr hl h2 h3 hd0 hd1 hi0 hi1 (by omega) hb hk h1 (by omega) hn0
 ·rw [if_pos h1]
  exact DirsBk.unlink_no hW0 xd xi xk xl xz xp xn hr hl h2 (by omega) hd0 hd1 hi0 hi1 (by omega) hb hk h1
theorem replace_none (hW0 : Wk Rep) {w : World} {v : Value} {s : Vs} {S D : Nat → Prop} (xd xi xk xl xz xp kind : Int) (xn : ByteArray) (hr : Rep w v s S D) (hl : Lim s) (h2 : s.rd.length ≤ 19900) (h3 : s.rg.length ≤ 985) (hd0 : 0 ≤ xd) (hd1 : xd ≤ 4294967295) (hi0 : 0 ≤ xi) (hi1 : xi ≤ 4294967295) (hn0 : xn.size ≤ 32) (hb : InoB xk xl xz xp) (d : Bool) (hi : xi = 0) :
 Calls Tryz.prog 113 #[v,.agg #[.int .u32 xd,.string xn,.int .u32 xi,.int .u8 xk,.int .u32 xl,.int .u32 xz,.int .u32 xp],.int .u8 kind] w (Ans Rep v s (clrB s.shown ⟨xd,xn,xi,⟨xk,xl,xz,xp⟩⟩ d).1 (clrB s.shown ⟨xd,xn,xi,⟨xk,xl,xz,xp⟩⟩ d).2 1 1 S D w) := by
 obtain ⟨W,hW⟩ : ∃ W,w.alloc (.cells #[.int .u32 xd,.string xn,.int .u32 xi,.int .u8 xk,.int .u32 xl,.int .u32 xz,.int .u32 xp] 150) = W := ⟨_,rfl⟩
 have hbW : Below w.heap.size w W := by rw [← hW]; exact bW_
 have A0 := hQ_ ((At.start hr).own hW0.stays hbW (Nat.le_refl w.heap.size) (by rw [← hW]; simp))
 have X0 := hQ_ (show Blk W w.heap.size #[.int .u32 xd,.string xn,.int .u32 xi,.int .u8 xk,.int .u32 xl,.int .u32 xz,.int .u32 xp] 150 from hW ▸ Blk.new_ w _ _)
 have HW := hQ_ hW
 have C0 := hQ_ (aft0 s)
 have f0_X0 := cC7 X0.out
 have HV : clrB s.shown ⟨xd,xn,xi,⟨xk,xl,xz,xp⟩⟩ d = (0,[]) := if_pos hi
 rw [HV]
 dsimp only
 have d1 : (xi == 0) = true := by simpa using hi
 clear hr hl hW hbW HV hi hb
 go_enter Tryz.func113,Tryz.ntmps113
 go_wp2_with fail
 rw [HW.out]
 go_wp2_with fail
 go_ret
 exact Ans.ok A0.out ⟨C0.out.1.more (by omega) (by omega),C0.out.2⟩
theorem replace_dir (hW0 : Wk Rep) {w : World} {v : Value} {s : Vs} {S D : Nat → Prop} (xd xi xk xl xz xp kind : Int) (xn : ByteArray) (hr : Rep w v s S D) (hl : Lim s) (h2 : s.rd.length ≤ 19900) (h3 : s.rg.length ≤ 985) (hd0 : 0 ≤ xd) (hd1 : xd ≤ 4294967295) (hi0 : 0 ≤ xi) (hi1 : xi ≤ 4294967295) (hn0 : xn.size ≤ 32) (hb : InoB xk xl xz xp) (hi : xi ≠ 0) (hkd : kind = 2) (hk : ∀ p ∈ s.shown,(sp p.key).letter ≠ 0) :
 Calls Tryz.prog 113 #[v,.agg #[.int .u32 xd,.string xn,.int .u32 xi,.int .u8 xk,.int .u32 xl,.int .u32 xz,.int .u32 xp],.int .u8 kind] w (Ans Rep v s (clrB s.shown ⟨xd,xn,xi,⟨xk,xl,xz,xp⟩⟩ true).1 (clrB s.shown ⟨xd,xn,xi,⟨xk,xl,xz,xp⟩⟩ true).2 1 1 S D w) := by
 obtain ⟨W,hW⟩ : ∃ W,w.alloc (.cells #[.int .u32 xd,.string xn,.int .u32 xi,.int .u8 xk,.int .u32 xl,.int .u32 xz,.int .u32 xp] 150) = W := ⟨_,rfl⟩
 have hbW : Below w.heap.size w W := by rw [← hW]; exact bW_
 have A0 := hQ_ ((At.start hr).own hW0.stays hbW (Nat.le_refl w.heap.size) (by rw [← hW]; simp))
 have X0 := hQ_ (show Blk W w.heap.size #[.int .u32 xd,.string xn,.int .u32 xi,.int .u8 xk,.int .u32 xl,.int .u32 xz,.int .u32 xp] 150 from hW ▸ Blk.new_ w _ _)
 have HW := hQ_ hW
 have HS := hQ_ hW0.stays
 have f0_X0 := cC7 X0.out
 have HV : clrB s.shown ⟨xd,xn,xi,⟨xk,xl,xz,xp⟩⟩ true = remV s.shown ⟨xd,xn,xi,⟨xk,xl,xz,xp⟩⟩ := by unfold clrB; rw [if_neg hi,if_pos rfl]
 rw [HV]
 have d1 : (xi == 0) = false := by simpa using hi
 have d2 : (kind == 2) = true := by simpa using hkd
 have HC := hQ_ (fun w (S D : Nat → Prop) (hr : Rep w v s S D) => remove_calls hW0 xd xi xk xl xz xp xn hr hl h2 (by omega) hd0 hd1 hi0 hi1 (by omega) hk)
 obtain ⟨⟨rx,ps⟩,hrx⟩ : ∃ r,remV s.shown ⟨xd,xn,xi,⟨xk,xl,xz,xp⟩⟩ = r := ⟨_,rfl⟩
 rw [hrx] at HC ⊢
 dsimp only at HC ⊢
 clear hr hl hW hbW HV hi hb hkd hrx hk
 go_enter Tryz.func113,Tryz.ntmps113
 go_wp2_with fail
 rw [HW.out]
 go_wp2_with fail
 refine (HC.out _ _ _ A0.out.rep).mono ?_
 intro e w1 hh
 rcases Ans.split hh with ⟨s1,S1,D1,rfl,ho,hr,st,ha⟩ | ⟨s1,S1,D1,rfl,ho,hr,st,ha⟩
 ·have A1 := hQ_ (A0.out.step HS.out hr st)
  have HA := hQ_ (And.intro ha ho)
  clear hr st ha ho
  go_wp2_with fail
  go_ret
  exact Ans.ok A1.out HA.out
 ·have A1 := hQ_ (A0.out.step HS.out hr st)
  have HA := hQ_ (And.intro ha ho)
  clear hr st ha ho
  go_wp2_with fail
  go_ret
  exact Ans.full A1.out HA.out
theorem replace_file (hW0 : Wk Rep) (hRn : RangeN Rep) {w : World} {v : Value} {s : Vs} {S D : Nat → Prop} (xd xi xk xl xz xp kind : Int) (xn : ByteArray) (hr : Rep w v s S D) (hl : Lim s) (h2 : s.rd.length ≤ 19900) (h3 : s.rg.length ≤ 985) (hd0 : 0 ≤ xd) (hd1 : xd ≤ 4294967295) (hi0 : 0 ≤ xi) (hi1 : xi ≤ 4294967295) (hn0 : xn.size ≤ 32) (hb : InoB xk xl xz xp) (hi : xi ≠ 0) (hkd : kind ≠ 2) (hk : ∀ p ∈ s.shown,(sp p.key).letter ≠ 0) :
 Calls Tryz.prog 113 #[v,.agg #[.int .u32 xd,.string xn,.int .u32 xi,.int .u8 xk,.int .u32 xl,.int .u32 xz,.int .u32 xp],.int .u8 kind] w (Ans Rep v s (clrB s.shown ⟨xd,xn,xi,⟨xk,xl,xz,xp⟩⟩ false).1 (clrB s.shown ⟨xd,xn,xi,⟨xk,xl,xz,xp⟩⟩ false).2 1 1 S D w) := by
 obtain ⟨W,hW⟩ : ∃ W,w.alloc (.cells #[.int .u32 xd,.string xn,.int .u32 xi,.int .u8 xk,.int .u32 xl,.int .u32 xz,.int .u32 xp] 150) = W := ⟨_,rfl⟩
 have hbW : Below w.heap.size w W := by rw [← hW]; exact bW_
 have A0 := hQ_ ((At.start hr).own hW0.stays hbW (Nat.le_refl w.heap.size) (by rw [← hW]; simp))
 have X0 := hQ_ (show Blk W w.heap.size #[.int .u32 xd,.string xn,.int .u32 xi,.int .u8 xk,.int .u32 xl,.int .u32 xz,.int .u32 xp] 150 from hW ▸ Blk.new_ w _ _)
 have HW := hQ_ hW
 have HS := hQ_ hW0.stays
 have f0_X0 := cC7 X0.out
 have HV : clrB s.shown ⟨xd,xn,xi,⟨xk,xl,xz,xp⟩⟩ false = unlB s.shown ⟨xd,xn,xi,⟨xk,xl,xz,xp⟩⟩ := by unfold clrB; rw [if_neg hi,if_neg (by decide)]
 rw [HV]
 have d1 : (xi == 0) = false := by simpa using hi
 have d2 : (kind == 2) = false := by simpa using hkd
 have HC := hQ_ (fun w (S D : Nat → Prop) (hr : Rep w v s S D) => unlink_calls hW0 hRn xd xi xk xl xz xp xn hr hl h2 h3 hd0 hd1 hi0 hi1 hn0 hb hk)
 obtain ⟨⟨rx,ps⟩,hrx⟩ : ∃ r,unlB s.shown ⟨xd,xn,xi,⟨xk,xl,xz,xp⟩⟩ = r := ⟨_,rfl⟩
 rw [hrx] at HC ⊢
 dsimp only at HC ⊢
 clear hr hl hW hbW HV hi hb hkd hrx hk
 go_enter Tryz.func113,Tryz.ntmps113
 go_wp2_with fail
 rw [HW.out]
 go_wp2_with fail
 refine (HC.out _ _ _ A0.out.rep).mono ?_
 intro e w1 hh
 rcases Ans.split hh with ⟨s1,S1,D1,rfl,ho,hr,st,ha⟩ | ⟨s1,S1,D1,rfl,ho,hr,st,ha⟩
 ·have A1 := hQ_ (A0.out.step HS.out hr st)
  have HA := hQ_ (And.intro ha ho)
  clear hr st ha ho
  go_wp2_with fail
  go_ret
  exact Ans.ok A1.out HA.out
 ·have A1 := hQ_ (A0.out.step HS.out hr st)
  have HA := hQ_ (And.intro ha ho)
  clear hr st ha ho
  go_wp2_with fail
  go_ret
  exact Ans.full A1.out HA.out
theorem replace_calls (hW0 : Wk Rep) (hRn : RangeN Rep) {w : World} {v : Value} {s : Vs} {S D : Nat → Prop} (xd xi xk xl xz xp kind : Int) (xn : ByteArray) (hr : Rep w v s S D) (hl : Lim s) (h2 : s.rd.length ≤ 19900) (h3 : s.rg.length ≤ 985) (hd0 : 0 ≤ xd) (hd1 : xd ≤ 4294967295) (hi0 : 0 ≤ xi) (hi1 : xi ≤ 4294967295) (hn0 : xn.size ≤ 32) (hb : InoB xk xl xz xp) (hk : ∀ p ∈ s.shown,(sp p.key).letter ≠ 0) :
 Calls Tryz.prog 113 #[v,.agg #[.int .u32 xd,.string xn,.int .u32 xi,.int .u8 xk,.int .u32 xl,.int .u32 xz,.int .u32 xp],.int .u8 kind] w (Ans Rep v s (clrB s.shown ⟨xd,xn,xi,⟨xk,xl,xz,xp⟩⟩ (decide (kind = 2))).1 (clrB s.shown ⟨xd,xn,xi,⟨xk,xl,xz,xp⟩⟩ (decide (kind = 2))).2 1 1 S D w) := by
 by_cases hi : xi = 0
 ·exact replace_none hW0 xd xi xk xl xz xp kind xn hr hl h2 h3 hd0 hd1 hi0 hi1 hn0 hb _ hi
 ·by_cases hkd : kind = 2
  ·rw [decide_eq_true hkd]
   exact replace_dir hW0 xd xi xk xl xz xp kind xn hr hl h2 h3 hd0 hd1 hi0 hi1 hn0 hb hi hkd hk
  ·rw [decide_eq_false hkd]
   exact replace_file hW0 hRn xd xi xk xl xz xp kind xn hr hl h2 h3 hd0 hd1 hi0 hi1 hn0 hb hi hkd hk
end Go.Proofs.YtogdjbhjgbnicaaGreatDoor.DirsBd
namespace Go.Proofs.YtogdjbhjgbnicaaGreatDoor.DirsBf
open Go.RowKit
open Byte KeysM TreeM ViewM ViewKm NodeM NodeG NamesM NamesL WalkM WalkF WalkKm DirsV Lst Chg TreeL ViewL WalkL WalkV Vat WalkKa WalkKb DirsK DirsKa DirsKb DirsKc DirsKd
open Own hiding keeps
open DirsKf
open DirsBm RgN
open FileV (drpPs)
variable {Rep : RepT}
theorem ulk_err (hW0 : Wk Rep) {w : World} {v : Value} {s : Vs} {S D : Nat → Prop} (path : ByteArray) {xd xi xk xl xz xp er : Int} {xn : ByteArray} (hr : Rep w v s S D) (hl : Lim s) (h2 : s.rd.length ≤ 18000) (h3 : s.rg.length ≤ 900) (hx : Mxs w S) (hp : path.size ≤ 100000) (hR : findM s.shown path = (⟨xd,xn,xi,⟨xk,xl,xz,xp⟩⟩,er)) (hk : ∀ p ∈ s.shown,(sp p.key).letter ≠ 0) (he : er ≠ 0) :
 Calls Tryz.prog 87 #[v,.string path] w (Ans Rep v s er [] 41 1 S D w) := by
 have A0 := hQ_ (At.start hr)
 have HX := hQ_ hx
 have HS := hQ_ hW0.stays
 have HL := hQ_ hl
 have C0 := hQ_ (aft0 s)
 have HWT := hQ_ when_t
 have HWF := hQ_ when_f
 have HFI := hQ_ (fun w (S D : Nat → Prop) (t : Vs) (hr : Rep w v t S D) (hsm : Sm t s) hl h2 hx => find_c hW0 path hR hr hsm hl h2 hp hx)
 unfold FndC at HFI
 have hsbx := find_bd s.shown path
 have hibx := find_ib s.shown path
 rw [hR] at hsbx hibx
 obtain ⟨x0,x1,x2,x3,x4⟩ := hsbx
 dsimp only at x0 x1 x2 x3 x4 HFI hibx
 have d0 : (er != 0) = true := by simpa using he
 clear hr hl hp hR hx hW0 hk
 rcases (show xi ≠ 0 ∨ xi = 0 by omega) with h0 | h0
 ·have d2 : (xi == 0) = false := by simp; omega
  clear h0
  go_enter Tryz.func87,Tryz.ntmps87
  go_wp2_with fail
  refine (HFI.out _ _ _ _ A0.out.rep (Aft.sm0 C0.out.1) (lim_aft C0.out.1 HL.out (by omega) (by omega)) (by have := C0.out.1.rd; omega) (HX.out.at_ A0.out).1).mono ?_
  rintro e w1 ⟨s1,S1,D1,rfl,hr,st,hsm,hrd,hrg⟩
  have C1 := hQ_ (aftF C0.out hsm hrd hrg)
  have X1 := hQ_ (Blk.new_ w1 #[.int .u32 xd,.string xn,.int .u32 xi,.int .u8 xk,.int .u32 xl,.int .u32 xz,.int .u32 xp] 150)
  have hbn := bX_ X1.out
  have AQ := A0.out.step HS.out hr st
  have A1 := hQ_ (AQ.own HS.out hbn (Nat.le_refl w1.heap.size) (by simp))
  have f1_X0 := cC7 X1.out
  clear hr st hsm hrd hrg hbn AQ
  have FE2 : fst_ [er,0] = er := by unfold fst_; rw [if_neg he]
  have HF2 := hQ_ (And.intro (first_2g (er) (0) (w1.alloc (.cells #[.int .u32 xd,.string xn,.int .u32 xi,.int .u8 xk,.int .u32 xl,.int .u32 xz,.int .u32 xp] 150)) (w1.heap.size + 1) (by simp)) (first_2d (er) (0) (w1.alloc (.cells #[.int .u32 xd,.string xn,.int .u32 xi,.int .u8 xk,.int .u32 xl,.int .u32 xz,.int .u32 xp] 150)) (w1.heap.size + 1) (by simp)))
  rw [FE2] at HF2
  clear FE2
  go_upto_region 2 with (fail)
  go_cut [7] (fun p wx => p = .int .i64 (er) ∧ BL_ (w1.alloc (.cells #[.int .u32 xd,.string xn,.int .u32 xi,.int .u8 xk,.int .u32 xl,.int .u32 xz,.int .u32 xp] 150)) wx)
  case first =>
   go_wp2_with (first | (go_at_call 99; (with_reducible refine (HWT.out _ _).mono ?_); rintro e w9 ⟨rfl,rfl⟩) | (go_at_call 99; (with_reducible refine (HWF.out _ _).mono ?_); rintro e w9 ⟨rfl,rfl⟩) | (go_at_call 98; (with_reducible refine HF2.out.1.mono ?_); rintro e w9 ⟨rfl,rfl⟩))
   all_goals
    go_meet
    exact fB_
  case rest =>
   obtain ⟨rfl,hbc⟩ := hcut
   have A2 := hQ_ (A1.out.below HS.out hbc)
   have X2 := hQ_ (X1.out.below hbc)
   skip
   have f2_X0 := cC7 X2.out
   clear hbc f1_X0
   clear he
   go_wp2_with fail
   go_ret
   exact Ans.ok A2.out ⟨C1.out.1.more (by omega) (by omega),C1.out.2⟩
 ·have d2 : (xi == 0) = true := by simp; omega
  clear h0
  go_enter Tryz.func87,Tryz.ntmps87
  go_wp2_with fail
  refine (HFI.out _ _ _ _ A0.out.rep (Aft.sm0 C0.out.1) (lim_aft C0.out.1 HL.out (by omega) (by omega)) (by have := C0.out.1.rd; omega) (HX.out.at_ A0.out).1).mono ?_
  rintro e w3 ⟨s3,S3,D3,rfl,hr,st,hsm,hrd,hrg⟩
  have C3 := hQ_ (aftF C0.out hsm hrd hrg)
  have X3 := hQ_ (Blk.new_ w3 #[.int .u32 xd,.string xn,.int .u32 xi,.int .u8 xk,.int .u32 xl,.int .u32 xz,.int .u32 xp] 150)
  have hbn := bX_ X3.out
  have AQ := A0.out.step HS.out hr st
  have A3 := hQ_ (AQ.own HS.out hbn (Nat.le_refl w3.heap.size) (by simp))
  have f3_X0 := cC7 X3.out
  clear hr st hsm hrd hrg hbn AQ
  have FE4 : fst_ [er,10] = er := by unfold fst_; rw [if_neg he]
  have HF4 := hQ_ (And.intro (first_2g (er) (10) (w3.alloc (.cells #[.int .u32 xd,.string xn,.int .u32 xi,.int .u8 xk,.int .u32 xl,.int .u32 xz,.int .u32 xp] 150)) (w3.heap.size + 1) (by simp)) (first_2d (er) (10) (w3.alloc (.cells #[.int .u32 xd,.string xn,.int .u32 xi,.int .u8 xk,.int .u32 xl,.int .u32 xz,.int .u32 xp] 150)) (w3.heap.size + 1) (by simp)))
  rw [FE4] at HF4
  clear FE4
  go_upto_region 2 with (fail)
  go_cut [7] (fun p wx => p = .int .i64 (er) ∧ BL_ (w3.alloc (.cells #[.int .u32 xd,.string xn,.int .u32 xi,.int .u8 xk,.int .u32 xl,.int .u32 xz,.int .u32 xp] 150)) wx)
  case first =>
   go_wp2_with (first | (go_at_call 99; (with_reducible refine (HWT.out _ _).mono ?_); rintro e w9 ⟨rfl,rfl⟩) | (go_at_call 99; (with_reducible refine (HWF.out _ _).mono ?_); rintro e w9 ⟨rfl,rfl⟩) | (go_at_call 98; (with_reducible refine HF4.out.1.mono ?_); rintro e w9 ⟨rfl,rfl⟩))
   all_goals
    go_meet
    exact fB_
  case rest =>
   obtain ⟨rfl,hbc⟩ := hcut
   have A4 := hQ_ (A3.out.below HS.out hbc)
   have X4 := hQ_ (X3.out.below hbc)
   skip
   have f4_X0 := cC7 X4.out
   clear hbc f3_X0
   clear he
   go_wp2_with fail
   go_ret
   exact Ans.ok A4.out ⟨C3.out.1.more (by omega) (by omega),C3.out.2⟩
theorem ulk_none (hW0 : Wk Rep) {w : World} {v : Value} {s : Vs} {S D : Nat → Prop} (path : ByteArray) {xd xi xk xl xz xp er : Int} {xn : ByteArray} (hr : Rep w v s S D) (hl : Lim s) (h2 : s.rd.length ≤ 18000) (h3 : s.rg.length ≤ 900) (hx : Mxs w S) (hp : path.size ≤ 100000) (hR : findM s.shown path = (⟨xd,xn,xi,⟨xk,xl,xz,xp⟩⟩,er)) (hk : ∀ p ∈ s.shown,(sp p.key).letter ≠ 0) (he : er = 0) (h0 : xi = 0) :
 Calls Tryz.prog 87 #[v,.string path] w (Ans Rep v s 10 [] 41 1 S D w) := by
 have A0 := hQ_ (At.start hr)
 have HX := hQ_ hx
 have HS := hQ_ hW0.stays
 have HL := hQ_ hl
 have C0 := hQ_ (aft0 s)
 have HWT := hQ_ when_t
 have HWF := hQ_ when_f
 have HFI := hQ_ (fun w (S D : Nat → Prop) (t : Vs) (hr : Rep w v t S D) (hsm : Sm t s) hl h2 hx => find_c hW0 path hR hr hsm hl h2 hp hx)
 unfold FndC at HFI
 have hsbx := find_bd s.shown path
 have hibx := find_ib s.shown path
 rw [hR] at hsbx hibx
 obtain ⟨x0,x1,x2,x3,x4⟩ := hsbx
 dsimp only at x0 x1 x2 x3 x4 HFI hibx
 subst he
 have d2 : (xi == 0) = true := by simpa using h0
 clear hr hl hp hR hx hW0 hk h0
 go_enter Tryz.func87,Tryz.ntmps87
 go_wp2_with fail
 refine (HFI.out _ _ _ _ A0.out.rep (Aft.sm0 C0.out.1) (lim_aft C0.out.1 HL.out (by omega) (by omega)) (by have := C0.out.1.rd; omega) (HX.out.at_ A0.out).1).mono ?_
 rintro e w1 ⟨s1,S1,D1,rfl,hr,st,hsm,hrd,hrg⟩
 have C1 := hQ_ (aftF C0.out hsm hrd hrg)
 have X1 := hQ_ (Blk.new_ w1 #[.int .u32 xd,.string xn,.int .u32 xi,.int .u8 xk,.int .u32 xl,.int .u32 xz,.int .u32 xp] 150)
 have hbn := bX_ X1.out
 have AQ := A0.out.step HS.out hr st
 have A1 := hQ_ (AQ.own HS.out hbn (Nat.le_refl w1.heap.size) (by simp))
 have f1_X0 := cC7 X1.out
 clear hr st hsm hrd hrg hbn AQ
 have FE2 : fst_ [0,10] = 10 := rfl
 have HF2 := hQ_ (And.intro (first_2g (0) (10) (w1.alloc (.cells #[.int .u32 xd,.string xn,.int .u32 xi,.int .u8 xk,.int .u32 xl,.int .u32 xz,.int .u32 xp] 150)) (w1.heap.size + 1) (by simp)) (first_2d (0) (10) (w1.alloc (.cells #[.int .u32 xd,.string xn,.int .u32 xi,.int .u8 xk,.int .u32 xl,.int .u32 xz,.int .u32 xp] 150)) (w1.heap.size + 1) (by simp)))
 rw [FE2] at HF2
 clear FE2
 go_upto_region 2 with (fail)
 go_cut [7] (fun p wx => p = .int .i64 (10) ∧ BL_ (w1.alloc (.cells #[.int .u32 xd,.string xn,.int .u32 xi,.int .u8 xk,.int .u32 xl,.int .u32 xz,.int .u32 xp] 150)) wx)
 case first =>
  go_wp2_with (first | (go_at_call 99; (with_reducible refine (HWT.out _ _).mono ?_); rintro e w9 ⟨rfl,rfl⟩) | (go_at_call 99; (with_reducible refine (HWF.out _ _).mono ?_); rintro e w9 ⟨rfl,rfl⟩) | (go_at_call 98; (with_reducible refine HF2.out.1.mono ?_); rintro e w9 ⟨rfl,rfl⟩))
  all_goals
   go_meet
   exact fB_
 case rest =>
  obtain ⟨rfl,hbc⟩ := hcut
  have A2 := hQ_ (A1.out.below HS.out hbc)
  have X2 := hQ_ (X1.out.below hbc)
  skip
  have f2_X0 := cC7 X2.out
  clear hbc f1_X0
  go_wp2_with fail
  go_ret
  exact Ans.ok A2.out ⟨C1.out.1.more (by omega) (by omega),C1.out.2⟩
theorem ulk_there (hW0 : Wk Rep) (hRn : RangeN Rep) {w : World} {v : Value} {s : Vs} {S D : Nat → Prop} (path : ByteArray) {xd xi xk xl xz xp er : Int} {xn : ByteArray} (hr : Rep w v s S D) (hl : Lim s) (h2 : s.rd.length ≤ 18000) (h3 : s.rg.length ≤ 900) (hx : Mxs w S) (hp : path.size ≤ 100000) (hR : findM s.shown path = (⟨xd,xn,xi,⟨xk,xl,xz,xp⟩⟩,er)) (hk : ∀ p ∈ s.shown,(sp p.key).letter ≠ 0) (he : er = 0) (h0 : xi ≠ 0) :
 Calls Tryz.prog 87 #[v,.string path] w (Ans Rep v s (unlB s.shown ⟨xd,xn,xi,⟨xk,xl,xz,xp⟩⟩).1 (unlB s.shown ⟨xd,xn,xi,⟨xk,xl,xz,xp⟩⟩).2 41 1 S D w) := by
 have A0 := hQ_ (At.start hr)
 have HX := hQ_ hx
 have HS := hQ_ hW0.stays
 have HL := hQ_ hl
 have C0 := hQ_ (aft0 s)
 have HWT := hQ_ when_t
 have HWF := hQ_ when_f
 have HFI := hQ_ (fun w (S D : Nat → Prop) (t : Vs) (hr : Rep w v t S D) (hsm : Sm t s) hl h2 hx => find_c hW0 path hR hr hsm hl h2 hp hx)
 unfold FndC at HFI
 have hsbx := find_bd s.shown path
 have hibx := find_ib s.shown path
 rw [hR] at hsbx hibx
 obtain ⟨x0,x1,x2,x3,x4⟩ := hsbx
 dsimp only at x0 x1 x2 x3 x4 HFI hibx
 subst he
 have d2 : (xi == 0) = false := by simpa using h0
 have HC := hQ_ (fun w (S D : Nat → Prop) (t : Vs) (hr : Rep w v t S D) (hsm : Sm t s) (hl : Lim t) (h2 : t.rd.length ≤ 19900) (h3 : t.rg.length ≤ 985) => by have h := DirsBd.unlink_calls hW0 hRn xd xi xk xl xz xp xn hr hl h2 h3 x0 x1 x2 x3 x4 hibx (by rw [hsm.shown]; exact hk); rw [hsm.shown] at h; exact h)
 obtain ⟨⟨rx,ps⟩,hrx⟩ : ∃ r,unlB s.shown ⟨xd,xn,xi,⟨xk,xl,xz,xp⟩⟩ = r := ⟨_,rfl⟩
 rw [hrx] at HC ⊢
 dsimp only at HC ⊢
 clear hrx h0
 clear hr hl hp hR hx hW0 hk
 go_enter Tryz.func87,Tryz.ntmps87
 go_wp2_with fail
 refine (HFI.out _ _ _ _ A0.out.rep (Aft.sm0 C0.out.1) (lim_aft C0.out.1 HL.out (by omega) (by omega)) (by have := C0.out.1.rd; omega) (HX.out.at_ A0.out).1).mono ?_
 rintro e w1 ⟨s1,S1,D1,rfl,hr,st,hsm,hrd,hrg⟩
 have C1 := hQ_ (aftF C0.out hsm hrd hrg)
 have X1 := hQ_ (Blk.new_ w1 #[.int .u32 xd,.string xn,.int .u32 xi,.int .u8 xk,.int .u32 xl,.int .u32 xz,.int .u32 xp] 150)
 have hbn := bX_ X1.out
 have AQ := A0.out.step HS.out hr st
 have A1 := hQ_ (AQ.own HS.out hbn (Nat.le_refl w1.heap.size) (by simp))
 have f1_X0 := cC7 X1.out
 clear hr st hsm hrd hrg hbn AQ
 have FE2 : fst_ [0,0] = 0 := rfl
 have HF2 := hQ_ (And.intro (first_2g (0) (0) (w1.alloc (.cells #[.int .u32 xd,.string xn,.int .u32 xi,.int .u8 xk,.int .u32 xl,.int .u32 xz,.int .u32 xp] 150)) (w1.heap.size + 1) (by simp)) (first_2d (0) (0) (w1.alloc (.cells #[.int .u32 xd,.string xn,.int .u32 xi,.int .u8 xk,.int .u32 xl,.int .u32 xz,.int .u32 xp] 150)) (w1.heap.size + 1) (by simp)))
 rw [FE2] at HF2
 clear FE2
 go_upto_region 2 with (fail)
 go_cut [7] (fun p wx => p = .int .i64 (0) ∧ BL_ (w1.alloc (.cells #[.int .u32 xd,.string xn,.int .u32 xi,.int .u8 xk,.int .u32 xl,.int .u32 xz,.int .u32 xp] 150)) wx)
 case first =>
  go_wp2_with (first | (go_at_call 99; (with_reducible refine (HWT.out _ _).mono ?_); rintro e w9 ⟨rfl,rfl⟩) | (go_at_call 99; (with_reducible refine (HWF.out _ _).mono ?_); rintro e w9 ⟨rfl,rfl⟩) | (go_at_call 98; (with_reducible refine HF2.out.1.mono ?_); rintro e w9 ⟨rfl,rfl⟩))
  all_goals
   go_meet
   exact fB_
 case rest =>
  obtain ⟨rfl,hbc⟩ := hcut
  have A2 := hQ_ (A1.out.below HS.out hbc)
  have X2 := hQ_ (X1.out.below hbc)
  skip
  have f2_X0 := cC7 X2.out
  clear hbc f1_X0
  go_wp2_with fail
  refine (HC.out _ _ _ _ A2.out.rep (Aft.sm0 C1.out.1) (lim_aft C1.out.1 HL.out (by omega) (by omega)) (by have := C1.out.1.rd; omega) (by have := C1.out.1.rg; omega)).mono ?_
  intro e w3 hh
  rcases Ans.split hh with ⟨s3,S3,D3,rfl,ho,hr,st,ha⟩ | ⟨s3,S3,D3,rfl,ho,hr,st,ha⟩
  ·have A3 := hQ_ (A2.out.step HS.out hr st)
   have C3 := hQ_ (Aft.thru C1.out (And.intro ha ho))
   clear hr st ha ho
   go_wp2_with fail
   go_ret
   exact Ans.ok A3.out ⟨C3.out.1.more (by omega) (by omega),C3.out.2⟩
  ·have A3 := hQ_ (A2.out.step HS.out hr st)
   have C3 := hQ_ (Aft.thru C1.out (And.intro ha ho))
   clear hr st ha ho
   go_wp2_with fail
   go_ret
   exact Ans.full A3.out ⟨C3.out.1.more (by omega) (by omega),C3.out.2⟩
theorem ulk_calls (hW0 : Wk Rep) (hRn : RangeN Rep) {w : World} {v : Value} {s : Vs} {S D : Nat → Prop} (path : ByteArray) (hr : Rep w v s S D) (hl : Lim s) (h2 : s.rd.length ≤ 18000) (h3 : s.rg.length ≤ 900) (hx : Mxs w S) (hp : path.size ≤ 100000) (hk : ∀ p ∈ s.shown,(sp p.key).letter ≠ 0) :
 Calls Tryz.prog 87 #[v,.string path] w (Ans Rep v s (ulkB s.shown path).1 (ulkB s.shown path).2 41 1 S D w) := by
 unfold ulkB
 obtain ⟨⟨⟨xd,xn,xi,⟨xk,xl,xz,xp⟩⟩,er⟩,hR⟩ : ∃ R,findM s.shown path = R := ⟨_,rfl⟩
 have h := hR
 rw [hR]
 dsimp only
 by_cases he : er = 0
 ·rw [if_neg (fun h => h he)]
  by_cases h0 : xi = 0
  ·rw [if_pos h0]
   exact ulk_none hW0 path hr hl h2 h3 hx hp h hk he h0
  ·rw [if_neg h0]
   exact ulk_there hW0 hRn path hr hl h2 h3 hx hp h hk he h0
 ·rw [if_pos he]
  exact ulk_err hW0 path hr hl h2 h3 hx hp h hk he
end Go.Proofs.YtogdjbhjgbnicaaGreatDoor.DirsBf
namespace Go.Proofs.YtogdjbhjgbnicaaGreatDoor.DirsBh
open Go.RowKit
open Byte KeysM TreeM ViewM ViewKm NodeM NodeG NamesM NamesL WalkM WalkF WalkKm DirsV Lst Chg TreeL ViewL WalkL WalkV Vat WalkKa WalkKb DirsK DirsKa DirsKb DirsKc DirsKd
open Own hiding keeps
open DirsBm RgN
variable {Rep : RepT}
theorem first_2g (a b : Int) (w : World) (g : Nat) (hg : w.heap.size = g) : Calls Tryz.prog 98 #[.slice (some ⟨g,0,none⟩) 2 2] (w.alloc (.cells #[.int .i64 a,.int .i64 b] 43)) fun e w' => e = .returned (.int .i64 (fst_ [a,b])) ∧ (w.alloc (.cells #[.int .i64 a,.int .i64 b] 43)) = w' := by
 subst hg
 exact first_2 a b w
theorem first_3g (a b c : Int) (w : World) (g : Nat) (hg : w.heap.size = g) : Calls Tryz.prog 98 #[.slice (some ⟨g,0,none⟩) 3 3] (w.alloc (.cells #[.int .i64 a,.int .i64 b,.int .i64 c] 43)) fun e w' => e = .returned (.int .i64 (fst_ [a,b,c])) ∧ (w.alloc (.cells #[.int .i64 a,.int .i64 b,.int .i64 c] 43)) = w' := by
 subst hg
 exact first_3 a b c w
theorem first_2d (a b : Int) (w : World) (g : Nat) (hg : w.heap.size = g) : Calls Tryz.prog 98 #[.slice (some ⟨g,0,none⟩) 2 2] (w.alloc (.cells #[.int .i64 a,.int .i64 b] 43)).drew fun e w' => e = .returned (.int .i64 (fst_ [a,b])) ∧ (w.alloc (.cells #[.int .i64 a,.int .i64 b] 43)).drew = w' := by
 subst hg
 exact first_calls _ 2 2 [a,b] _ ((So.lit erE 43 w (base := w.heap.size) [a,b] #[.int .i64 a,.int .i64 b] 2 rfl rfl (Nat.le_refl _) (by decide)).sl.below ((Below.refl _ _).drew)) (by decide)
theorem first_2b (a b : Int) (w : World) (g : Nat) (hg : w.heap.size = g) : (Calls Tryz.prog 98 #[.slice (some ⟨g,0,none⟩) 2 2] (w.alloc (.cells #[.int .i64 a,.int .i64 b] 43)) fun e w' => e = .returned (.int .i64 (fst_ [a,b])) ∧ (w.alloc (.cells #[.int .i64 a,.int .i64 b] 43)) = w') ∧ (Calls Tryz.prog 98 #[.slice (some ⟨g,0,none⟩) 2 2] (w.alloc (.cells #[.int .i64 a,.int .i64 b] 43)).drew fun e w' => e = .returned (.int .i64 (fst_ [a,b])) ∧ (w.alloc (.cells #[.int .i64 a,.int .i64 b] 43)).drew = w') := ⟨first_2g a b w g hg,first_2d a b w g hg⟩
theorem first_3d (a b c : Int) (w : World) (g : Nat) (hg : w.heap.size = g) : Calls Tryz.prog 98 #[.slice (some ⟨g,0,none⟩) 3 3] (w.alloc (.cells #[.int .i64 a,.int .i64 b,.int .i64 c] 43)).drew fun e w' => e = .returned (.int .i64 (fst_ [a,b,c])) ∧ (w.alloc (.cells #[.int .i64 a,.int .i64 b,.int .i64 c] 43)).drew = w' := by
 subst hg
 exact first_calls _ 3 3 [a,b,c] _ ((So.lit erE 43 w (base := w.heap.size) [a,b,c] #[.int .i64 a,.int .i64 b,.int .i64 c] 3 rfl rfl (Nat.le_refl _) (by decide)).sl.below ((Below.refl _ _).drew)) (by decide)
theorem first_3b (a b c : Int) (w : World) (g : Nat) (hg : w.heap.size = g) : (Calls Tryz.prog 98 #[.slice (some ⟨g,0,none⟩) 3 3] (w.alloc (.cells #[.int .i64 a,.int .i64 b,.int .i64 c] 43)) fun e w' => e = .returned (.int .i64 (fst_ [a,b,c])) ∧ (w.alloc (.cells #[.int .i64 a,.int .i64 b,.int .i64 c] 43)) = w') ∧ (Calls Tryz.prog 98 #[.slice (some ⟨g,0,none⟩) 3 3] (w.alloc (.cells #[.int .i64 a,.int .i64 b,.int .i64 c] 43)).drew fun e w' => e = .returned (.int .i64 (fst_ [a,b,c])) ∧ (w.alloc (.cells #[.int .i64 a,.int .i64 b,.int .i64 c] 43)).drew = w') := ⟨first_3g a b c w g hg,first_3d a b c w g hg⟩
theorem ren_err (hW0 : Wk Rep) (hRn : RangeN Rep) {w : World} {v : Value} {s : Vs} {S D : Nat → Prop} (old path : ByteArray) {xd xi xk xl xz xp er : Int} {xn : ByteArray} (hr : Rep w v s S D) (hl : Lim s) (h2 : s.rd.length ≤ 18000) (h3 : s.rg.length ≤ 900) (hx : Mxs w S) (hp : old.size ≤ 100000) (hp2 : path.size ≤ 100000) (hR : findM s.shown old = (⟨xd,xn,xi,⟨xk,xl,xz,xp⟩⟩,er)) (he : er ≠ 0) :
 Calls Tryz.prog 85 #[v,.string old,.string path] w (Ans Rep v s er [] 84 1 S D w) := by
 have A0 := hQ_ (At.start hr)
 have HX := hQ_ hx
 have HS := hQ_ hW0.stays
 have HL := hQ_ hl
 have C0 := hQ_ (aft0 s)
 have HWT := hQ_ when_t
 have HWF := hQ_ when_f
 have HFI := hQ_ (fun w (S D : Nat → Prop) (t : Vs) (hr : Rep w v t S D) (hsm : Sm t s) hl h2 hx => find_c hW0 old hR hr hsm hl h2 hp hx)
 unfold FndC at HFI
 have hsbx := find_bd s.shown old
 have hibx := find_ib s.shown old
 rw [hR] at hsbx hibx
 obtain ⟨x0,x1,x2,x3,x4⟩ := hsbx
 dsimp only at x0 x1 x2 x3 x4 HFI hibx
 have d0 : (er != 0) = true := by simpa using he
 clear hr hl hp hp2 hR hW0 hx
 rcases (show (xi ≠ 1 ∧ xi ≠ 0) ∨ (xi ≠ 1 ∧ xi = 0) ∨ xi = 1 by omega) with h0 | h0 | h0
 ·have d1 : (xi == 1) = false := by simp; omega
  have d2 : (xi == 0) = false := by simp; omega
  clear h0
  go_enter Tryz.func85,Tryz.ntmps85
  go_wp2_with fail
  refine (HFI.out _ _ _ _ A0.out.rep (Aft.sm0 C0.out.1) (lim_aft C0.out.1 HL.out (by omega) (by omega)) (by have := C0.out.1.rd; omega) (HX.out.at_ A0.out).1).mono ?_
  rintro e w1 ⟨s1,S1,D1,rfl,hr,st,hsm,hrd,hrg⟩
  have C1 := hQ_ (aftF C0.out hsm hrd hrg)
  have X1 := hQ_ (Blk.new_ w1 #[.int .u32 xd,.string xn,.int .u32 xi,.int .u8 xk,.int .u32 xl,.int .u32 xz,.int .u32 xp] 150)
  have hbn := bX_ X1.out
  have AQ := A0.out.step HS.out hr st
  have A1 := hQ_ (AQ.own HS.out hbn (Nat.le_refl w1.heap.size) (by simp))
  have f1_X0 := cC7 X1.out
  clear hr st hsm hrd hrg hbn AQ
  have FE2 : fst_ [er,0,0] = er := by unfold fst_; rw [if_neg he]
  have HF2 := hQ_ (first_3b (er) (0) (0) (w1.alloc (.cells #[.int .u32 xd,.string xn,.int .u32 xi,.int .u8 xk,.int .u32 xl,.int .u32 xz,.int .u32 xp] 150)) (w1.heap.size + 1) (by simp))
  rw [FE2] at HF2
  clear FE2
  go_upto_region 2 with (fail)
  go_cut [9] (fun p wx => p = .int .i64 (er) ∧ BL_ (w1.alloc (.cells #[.int .u32 xd,.string xn,.int .u32 xi,.int .u8 xk,.int .u32 xl,.int .u32 xz,.int .u32 xp] 150)) wx)
  case first =>
   go_region_law (first | (go_simp; go_at_call 99; (with_reducible refine (HWT.out _ _).mono ?_); rintro e w9 ⟨rfl,rfl⟩) | (go_simp; go_at_call 99; (with_reducible refine (HWF.out _ _).mono ?_); rintro e w9 ⟨rfl,rfl⟩) | (go_simp; go_at_call 98; (first | (with_reducible refine HF2.out.1.mono ?_) | (with_reducible refine HF2.out.2.mono ?_)); rintro e w9 ⟨rfl,rfl⟩))
   all_goals
    go_wp2_with fail
    go_meet
    exact fB_
  case rest =>
   obtain ⟨rfl,hbc⟩ := hcut
   have A2 := hQ_ (A1.out.below HS.out hbc)
   have X2 := hQ_ (X1.out.below hbc)
   skip
   have f2_X0 := cC7 X2.out
   clear hbc f1_X0
   clear he
   go_wp2_with fail
   go_ret
   exact Ans.ok A2.out ⟨C1.out.1.more (by omega) (by omega),C1.out.2⟩
 ·have d1 : (xi == 1) = false := by simp; omega
  have d2 : (xi == 0) = true := by simp; omega
  clear h0
  go_enter Tryz.func85,Tryz.ntmps85
  go_wp2_with fail
  refine (HFI.out _ _ _ _ A0.out.rep (Aft.sm0 C0.out.1) (lim_aft C0.out.1 HL.out (by omega) (by omega)) (by have := C0.out.1.rd; omega) (HX.out.at_ A0.out).1).mono ?_
  rintro e w3 ⟨s3,S3,D3,rfl,hr,st,hsm,hrd,hrg⟩
  have C3 := hQ_ (aftF C0.out hsm hrd hrg)
  have X3 := hQ_ (Blk.new_ w3 #[.int .u32 xd,.string xn,.int .u32 xi,.int .u8 xk,.int .u32 xl,.int .u32 xz,.int .u32 xp] 150)
  have hbn := bX_ X3.out
  have AQ := A0.out.step HS.out hr st
  have A3 := hQ_ (AQ.own HS.out hbn (Nat.le_refl w3.heap.size) (by simp))
  have f3_X0 := cC7 X3.out
  clear hr st hsm hrd hrg hbn AQ
  have FE4 : fst_ [er,0,10] = er := by unfold fst_; rw [if_neg he]
  have HF4 := hQ_ (first_3b (er) (0) (10) (w3.alloc (.cells #[.int .u32 xd,.string xn,.int .u32 xi,.int .u8 xk,.int .u32 xl,.int .u32 xz,.int .u32 xp] 150)) (w3.heap.size + 1) (by simp))
  rw [FE4] at HF4
  clear FE4
  go_upto_region 2 with (fail)
  go_cut [9] (fun p wx => p = .int .i64 (er) ∧ BL_ (w3.alloc (.cells #[.int .u32 xd,.string xn,.int .u32 xi,.int .u8 xk,.int .u32 xl,.int .u32 xz,.int .u32 xp] 150)) wx)
  case first =>
   go_region_law (first | (go_simp; go_at_call 99; (with_reducible refine (HWT.out _ _).mono ?_); rintro e w9 ⟨rfl,rfl⟩) | (go_simp; go_at_call 99; (with_reducible refine (HWF.out _ _).mono ?_); rintro e w9 ⟨rfl,rfl⟩) | (go_simp; go_at_call 98; (first | (with_reducible refine HF4.out.1.mono ?_) | (with_reducible refine HF4.out.2.mono ?_)); rintro e w9 ⟨rfl,rfl⟩))
   all_goals
    go_wp2_with fail
    go_meet
    exact fB_
  case rest =>
   obtain ⟨rfl,hbc⟩ := hcut
   have A4 := hQ_ (A3.out.below HS.out hbc)
   have X4 := hQ_ (X3.out.below hbc)
   skip
   have f4_X0 := cC7 X4.out
   clear hbc f3_X0
   clear he
   go_wp2_with fail
   go_ret
   exact Ans.ok A4.out ⟨C3.out.1.more (by omega) (by omega),C3.out.2⟩
 ·have d1 : (xi == 1) = true := by simp; omega
  have d2 : (xi == 0) = false := by simp; omega
  clear h0
  go_enter Tryz.func85,Tryz.ntmps85
  go_wp2_with fail
  refine (HFI.out _ _ _ _ A0.out.rep (Aft.sm0 C0.out.1) (lim_aft C0.out.1 HL.out (by omega) (by omega)) (by have := C0.out.1.rd; omega) (HX.out.at_ A0.out).1).mono ?_
  rintro e w5 ⟨s5,S5,D5,rfl,hr,st,hsm,hrd,hrg⟩
  have C5 := hQ_ (aftF C0.out hsm hrd hrg)
  have X5 := hQ_ (Blk.new_ w5 #[.int .u32 xd,.string xn,.int .u32 xi,.int .u8 xk,.int .u32 xl,.int .u32 xz,.int .u32 xp] 150)
  have hbn := bX_ X5.out
  have AQ := A0.out.step HS.out hr st
  have A5 := hQ_ (AQ.own HS.out hbn (Nat.le_refl w5.heap.size) (by simp))
  have f5_X0 := cC7 X5.out
  clear hr st hsm hrd hrg hbn AQ
  have FE6 : fst_ [er,29,0] = er := by unfold fst_; rw [if_neg he]
  have HF6 := hQ_ (first_3b (er) (29) (0) (w5.alloc (.cells #[.int .u32 xd,.string xn,.int .u32 xi,.int .u8 xk,.int .u32 xl,.int .u32 xz,.int .u32 xp] 150)) (w5.heap.size + 1) (by simp))
  rw [FE6] at HF6
  clear FE6
  go_upto_region 2 with (fail)
  go_cut [9] (fun p wx => p = .int .i64 (er) ∧ BL_ (w5.alloc (.cells #[.int .u32 xd,.string xn,.int .u32 xi,.int .u8 xk,.int .u32 xl,.int .u32 xz,.int .u32 xp] 150)) wx)
  case first =>
   go_region_law (first | (go_simp; go_at_call 99; (with_reducible refine (HWT.out _ _).mono ?_); rintro e w9 ⟨rfl,rfl⟩) | (go_simp; go_at_call 99; (with_reducible refine (HWF.out _ _).mono ?_); rintro e w9 ⟨rfl,rfl⟩) | (go_simp; go_at_call 98; (first | (with_reducible refine HF6.out.1.mono ?_) | (with_reducible refine HF6.out.2.mono ?_)); rintro e w9 ⟨rfl,rfl⟩))
   all_goals
    go_wp2_with fail
    go_meet
    exact fB_
  case rest =>
   obtain ⟨rfl,hbc⟩ := hcut
   have A6 := hQ_ (A5.out.below HS.out hbc)
   have X6 := hQ_ (X5.out.below hbc)
   skip
   have f6_X0 := cC7 X6.out
   clear hbc f5_X0
   clear he
   go_wp2_with fail
   go_ret
   exact Ans.ok A6.out ⟨C5.out.1.more (by omega) (by omega),C5.out.2⟩
theorem ren_root (hW0 : Wk Rep) (hRn : RangeN Rep) {w : World} {v : Value} {s : Vs} {S D : Nat → Prop} (old path : ByteArray) {xd xi xk xl xz xp er : Int} {xn : ByteArray} (hr : Rep w v s S D) (hl : Lim s) (h2 : s.rd.length ≤ 18000) (h3 : s.rg.length ≤ 900) (hx : Mxs w S) (hp : old.size ≤ 100000) (hp2 : path.size ≤ 100000) (hR : findM s.shown old = (⟨xd,xn,xi,⟨xk,xl,xz,xp⟩⟩,er)) (he : er = 0) (h1 : xi = 1) :
 Calls Tryz.prog 85 #[v,.string old,.string path] w (Ans Rep v s 29 [] 84 1 S D w) := by
 have A0 := hQ_ (At.start hr)
 have HX := hQ_ hx
 have HS := hQ_ hW0.stays
 have HL := hQ_ hl
 have C0 := hQ_ (aft0 s)
 have HWT := hQ_ when_t
 have HWF := hQ_ when_f
 have HFI := hQ_ (fun w (S D : Nat → Prop) (t : Vs) (hr : Rep w v t S D) (hsm : Sm t s) hl h2 hx => find_c hW0 old hR hr hsm hl h2 hp hx)
 unfold FndC at HFI
 have hsbx := find_bd s.shown old
 have hibx := find_ib s.shown old
 rw [hR] at hsbx hibx
 obtain ⟨x0,x1,x2,x3,x4⟩ := hsbx
 dsimp only at x0 x1 x2 x3 x4 HFI hibx
 subst he
 have d1 : (xi == 1) = true := by simpa using h1
 have d2 : (xi == 0) = false := by simp; omega
 clear hr hl hp hp2 hR hW0 hx h1
 go_enter Tryz.func85,Tryz.ntmps85
 go_wp2_with fail
 refine (HFI.out _ _ _ _ A0.out.rep (Aft.sm0 C0.out.1) (lim_aft C0.out.1 HL.out (by omega) (by omega)) (by have := C0.out.1.rd; omega) (HX.out.at_ A0.out).1).mono ?_
 rintro e w1 ⟨s1,S1,D1,rfl,hr,st,hsm,hrd,hrg⟩
 have C1 := hQ_ (aftF C0.out hsm hrd hrg)
 have X1 := hQ_ (Blk.new_ w1 #[.int .u32 xd,.string xn,.int .u32 xi,.int .u8 xk,.int .u32 xl,.int .u32 xz,.int .u32 xp] 150)
 have hbn := bX_ X1.out
 have AQ := A0.out.step HS.out hr st
 have A1 := hQ_ (AQ.own HS.out hbn (Nat.le_refl w1.heap.size) (by simp))
 have f1_X0 := cC7 X1.out
 clear hr st hsm hrd hrg hbn AQ
 have FE2 : fst_ [0,29,0] = 29 := rfl
 have HF2 := hQ_ (first_3b (0) (29) (0) (w1.alloc (.cells #[.int .u32 xd,.string xn,.int .u32 xi,.int .u8 xk,.int .u32 xl,.int .u32 xz,.int .u32 xp] 150)) (w1.heap.size + 1) (by simp))
 rw [FE2] at HF2
 clear FE2
 go_upto_region 2 with (fail)
 go_cut [9] (fun p wx => p = .int .i64 (29) ∧ BL_ (w1.alloc (.cells #[.int .u32 xd,.string xn,.int .u32 xi,.int .u8 xk,.int .u32 xl,.int .u32 xz,.int .u32 xp] 150)) wx)
 case first =>
  go_region_law (first | (go_simp; go_at_call 99; (with_reducible refine (HWT.out _ _).mono ?_); rintro e w9 ⟨rfl,rfl⟩) | (go_simp; go_at_call 99; (with_reducible refine (HWF.out _ _).mono ?_); rintro e w9 ⟨rfl,rfl⟩) | (go_simp; go_at_call 98; (first | (with_reducible refine HF2.out.1.mono ?_) | (with_reducible refine HF2.out.2.mono ?_)); rintro e w9 ⟨rfl,rfl⟩))
  all_goals
   go_wp2_with fail
   go_meet
   exact fB_
 case rest =>
  obtain ⟨rfl,hbc⟩ := hcut
  have A2 := hQ_ (A1.out.below HS.out hbc)
  have X2 := hQ_ (X1.out.below hbc)
  skip
  have f2_X0 := cC7 X2.out
  clear hbc f1_X0
  go_wp2_with fail
  go_ret
  exact Ans.ok A2.out ⟨C1.out.1.more (by omega) (by omega),C1.out.2⟩
theorem ren_none (hW0 : Wk Rep) (hRn : RangeN Rep) {w : World} {v : Value} {s : Vs} {S D : Nat → Prop} (old path : ByteArray) {xd xi xk xl xz xp er : Int} {xn : ByteArray} (hr : Rep w v s S D) (hl : Lim s) (h2 : s.rd.length ≤ 18000) (h3 : s.rg.length ≤ 900) (hx : Mxs w S) (hp : old.size ≤ 100000) (hp2 : path.size ≤ 100000) (hR : findM s.shown old = (⟨xd,xn,xi,⟨xk,xl,xz,xp⟩⟩,er)) (he : er = 0) (h0 : xi = 0) :
 Calls Tryz.prog 85 #[v,.string old,.string path] w (Ans Rep v s 10 [] 84 1 S D w) := by
 have A0 := hQ_ (At.start hr)
 have HX := hQ_ hx
 have HS := hQ_ hW0.stays
 have HL := hQ_ hl
 have C0 := hQ_ (aft0 s)
 have HWT := hQ_ when_t
 have HWF := hQ_ when_f
 have HFI := hQ_ (fun w (S D : Nat → Prop) (t : Vs) (hr : Rep w v t S D) (hsm : Sm t s) hl h2 hx => find_c hW0 old hR hr hsm hl h2 hp hx)
 unfold FndC at HFI
 have hsbx := find_bd s.shown old
 have hibx := find_ib s.shown old
 rw [hR] at hsbx hibx
 obtain ⟨x0,x1,x2,x3,x4⟩ := hsbx
 dsimp only at x0 x1 x2 x3 x4 HFI hibx
 subst he
 have d1 : (xi == 1) = false := by simp; omega
 have d2 : (xi == 0) = true := by simpa using h0
 clear hr hl hp hp2 hR hW0 hx h0
 go_enter Tryz.func85,Tryz.ntmps85
 go_wp2_with fail
 refine (HFI.out _ _ _ _ A0.out.rep (Aft.sm0 C0.out.1) (lim_aft C0.out.1 HL.out (by omega) (by omega)) (by have := C0.out.1.rd; omega) (HX.out.at_ A0.out).1).mono ?_
 rintro e w1 ⟨s1,S1,D1,rfl,hr,st,hsm,hrd,hrg⟩
 have C1 := hQ_ (aftF C0.out hsm hrd hrg)
 have X1 := hQ_ (Blk.new_ w1 #[.int .u32 xd,.string xn,.int .u32 xi,.int .u8 xk,.int .u32 xl,.int .u32 xz,.int .u32 xp] 150)
 have hbn := bX_ X1.out
 have AQ := A0.out.step HS.out hr st
 have A1 := hQ_ (AQ.own HS.out hbn (Nat.le_refl w1.heap.size) (by simp))
 have f1_X0 := cC7 X1.out
 clear hr st hsm hrd hrg hbn AQ
 have FE2 : fst_ [0,0,10] = 10 := rfl
 have HF2 := hQ_ (first_3b (0) (0) (10) (w1.alloc (.cells #[.int .u32 xd,.string xn,.int .u32 xi,.int .u8 xk,.int .u32 xl,.int .u32 xz,.int .u32 xp] 150)) (w1.heap.size + 1) (by simp))
 rw [FE2] at HF2
 clear FE2
 go_upto_region 2 with (fail)
 go_cut [9] (fun p wx => p = .int .i64 (10) ∧ BL_ (w1.alloc (.cells #[.int .u32 xd,.string xn,.int .u32 xi,.int .u8 xk,.int .u32 xl,.int .u32 xz,.int .u32 xp] 150)) wx)
 case first =>
  go_region_law (first | (go_simp; go_at_call 99; (with_reducible refine (HWT.out _ _).mono ?_); rintro e w9 ⟨rfl,rfl⟩) | (go_simp; go_at_call 99; (with_reducible refine (HWF.out _ _).mono ?_); rintro e w9 ⟨rfl,rfl⟩) | (go_simp; go_at_call 98; (first | (with_reducible refine HF2.out.1.mono ?_) | (with_reducible refine HF2.out.2.mono ?_)); rintro e w9 ⟨rfl,rfl⟩))
  all_goals
   go_wp2_with fail
   go_meet
   exact fB_
 case rest =>
  obtain ⟨rfl,hbc⟩ := hcut
  have A2 := hQ_ (A1.out.below HS.out hbc)
  have X2 := hQ_ (X1.out.below hbc)
  skip
  have f2_X0 := cC7 X2.out
  clear hbc f1_X0
  go_wp2_with fail
  go_ret
  exact Ans.ok A2.out ⟨C1.out.1.more (by omega) (by omega),C1.out.2⟩
theorem ren_err2_0 (hW0 : Wk Rep) (hRn : RangeN Rep) {w : World} {v : Value} {s : Vs} {S D : Nat → Prop} (old path : ByteArray) {xd xi xk xl xz xp er : Int} {xn : ByteArray} {yd yi yk yl yz yp er2 : Int} {yn : ByteArray} (hr : Rep w v s S D) (hl : Lim s) (h2 : s.rd.length ≤ 18000) (h3 : s.rg.length ≤ 900) (hx : Mxs w S) (hp : old.size ≤ 100000) (hp2 : path.size ≤ 100000) (hR : findM s.shown old = (⟨xd,xn,xi,⟨xk,xl,xz,xp⟩⟩,er)) (hR2 : findM s.shown path = (⟨yd,yn,yi,⟨yk,yl,yz,yp⟩⟩,er2)) (he : er = 0) (h0 : xi ≠ 0) (h1 : xi ≠ 1) (he2 : er2 ≠ 0) (h3 : yi ≠ 1) :
 Calls Tryz.prog 85 #[v,.string old,.string path] w (Ans Rep v s er2 [] 84 1 S D w) := by
 have A0 := hQ_ (At.start hr)
 have HX := hQ_ hx
 have HS := hQ_ hW0.stays
 have HL := hQ_ hl
 have C0 := hQ_ (aft0 s)
 have HWT := hQ_ when_t
 have HWF := hQ_ when_f
 have HFI := hQ_ (fun w (S D : Nat → Prop) (t : Vs) (hr : Rep w v t S D) (hsm : Sm t s) hl h2 hx => find_c hW0 old hR hr hsm hl h2 hp hx)
 unfold FndC at HFI
 have hsbx := find_bd s.shown old
 have hibx := find_ib s.shown old
 rw [hR] at hsbx hibx
 obtain ⟨x0,x1,x2,x3,x4⟩ := hsbx
 dsimp only at x0 x1 x2 x3 x4 HFI hibx
 have HFJ := hQ_ (fun w (S D : Nat → Prop) (t : Vs) (hr : Rep w v t S D) (hsm : Sm t s) hl h2 hx => find_c hW0 path hR2 hr hsm hl h2 hp2 hx)
 unfold FndC at HFJ
 have hsby := find_bd s.shown path
 have hiby := find_ib s.shown path
 rw [hR2] at hsby hiby
 obtain ⟨y0,y1,y2,y3,y4⟩ := hsby
 dsimp only at y0 y1 y2 y3 y4 HFJ hiby
 subst he
 have d1 : (xi == 1) = false := by simpa using h1
 have d2 : (xi == 0) = false := by simpa using h0
 have d3 : (er2 != 0) = true := by simpa using he2
 have d4 : (yi == 1) = false := by simpa using h3
 clear hr hl hp hp2 hR hW0 hR2 hx h0 h1 h3
 go_enter Tryz.func85,Tryz.ntmps85
 go_wp2_with fail
 refine (HFI.out _ _ _ _ A0.out.rep (Aft.sm0 C0.out.1) (lim_aft C0.out.1 HL.out (by omega) (by omega)) (by have := C0.out.1.rd; omega) (HX.out.at_ A0.out).1).mono ?_
 rintro e w1 ⟨s1,S1,D1,rfl,hr,st,hsm,hrd,hrg⟩
 have C1 := hQ_ (aftF C0.out hsm hrd hrg)
 have X1 := hQ_ (Blk.new_ w1 #[.int .u32 xd,.string xn,.int .u32 xi,.int .u8 xk,.int .u32 xl,.int .u32 xz,.int .u32 xp] 150)
 have hbn := bX_ X1.out
 have AQ := A0.out.step HS.out hr st
 have A1 := hQ_ (AQ.own HS.out hbn (Nat.le_refl w1.heap.size) (by simp))
 have f1_X0 := cC7 X1.out
 clear hr st hsm hrd hrg hbn AQ
 have FE2 : fst_ [0,0,0] = 0 := rfl
 have HF2 := hQ_ (first_3b (0) (0) (0) (w1.alloc (.cells #[.int .u32 xd,.string xn,.int .u32 xi,.int .u8 xk,.int .u32 xl,.int .u32 xz,.int .u32 xp] 150)) (w1.heap.size + 1) (by simp))
 rw [FE2] at HF2
 clear FE2
 go_upto_region 2 with (fail)
 go_cut [9] (fun p wx => p = .int .i64 (0) ∧ BL_ (w1.alloc (.cells #[.int .u32 xd,.string xn,.int .u32 xi,.int .u8 xk,.int .u32 xl,.int .u32 xz,.int .u32 xp] 150)) wx)
 case first =>
  go_region_law (first | (go_simp; go_at_call 99; (with_reducible refine (HWT.out _ _).mono ?_); rintro e w9 ⟨rfl,rfl⟩) | (go_simp; go_at_call 99; (with_reducible refine (HWF.out _ _).mono ?_); rintro e w9 ⟨rfl,rfl⟩) | (go_simp; go_at_call 98; (first | (with_reducible refine HF2.out.1.mono ?_) | (with_reducible refine HF2.out.2.mono ?_)); rintro e w9 ⟨rfl,rfl⟩))
  all_goals
   go_wp2_with fail
   go_meet
   exact fB_
 case rest =>
  obtain ⟨rfl,hbc⟩ := hcut
  have A2 := hQ_ (A1.out.below HS.out hbc)
  have X2 := hQ_ (X1.out.below hbc)
  skip
  have f2_X0 := cC7 X2.out
  clear hbc f1_X0
  go_wp2_with fail
  refine (HFJ.out _ _ _ _ A2.out.rep (Aft.sm0 C1.out.1) (lim_aft C1.out.1 HL.out (by omega) (by omega)) (by have := C1.out.1.rd; omega) (HX.out.at_ A2.out).1).mono ?_
  rintro e w3 ⟨s3,S3,D3,rfl,hr,st,hsm,hrd,hrg⟩
  have C3 := hQ_ (aftF C1.out hsm hrd hrg)
  have Y3 := hQ_ (Blk.new_ w3 #[.int .u32 yd,.string yn,.int .u32 yi,.int .u8 yk,.int .u32 yl,.int .u32 yz,.int .u32 yp] 150)
  have hbn := bX_ Y3.out
  have AQ := A2.out.step HS.out hr st
  have A3 := hQ_ (AQ.own HS.out hbn (Nat.le_refl w3.heap.size) (by simp))
  have X3 := hQ_ ((A2.out.blk HS.out X2.out (.inr rfl) st).below hbn)
  have f3_X0 := cC7 X3.out
  have f3_Y0 := cC7 Y3.out
  clear hr st hsm hrd hrg hbn AQ f2_X0
  have FE4 : fst_ [er2,0] = er2 := by unfold fst_; rw [if_neg he2]
  have HF4 := hQ_ (first_2b (er2) (0) (w3.alloc (.cells #[.int .u32 yd,.string yn,.int .u32 yi,.int .u8 yk,.int .u32 yl,.int .u32 yz,.int .u32 yp] 150)) (w3.heap.size + 1) (by simp))
  rw [FE4] at HF4
  clear FE4
  go_upto_region 6 with (fail)
  go_cut [11] (fun p wx => p = .int .i64 (er2) ∧ BL_ (w3.alloc (.cells #[.int .u32 yd,.string yn,.int .u32 yi,.int .u8 yk,.int .u32 yl,.int .u32 yz,.int .u32 yp] 150)) wx)
  case first =>
   go_wp2_with (first | (go_at_call 99; (with_reducible refine (HWT.out _ _).mono ?_); rintro e w9 ⟨rfl,rfl⟩) | (go_at_call 99; (with_reducible refine (HWF.out _ _).mono ?_); rintro e w9 ⟨rfl,rfl⟩) | (go_at_call 98; (with_reducible refine HF4.out.1.mono ?_); rintro e w9 ⟨rfl,rfl⟩))
   all_goals
    go_meet
    exact fB_
  case rest =>
   obtain ⟨rfl,hbc⟩ := hcut
   have A4 := hQ_ (A3.out.below HS.out hbc)
   have X4 := hQ_ (X3.out.below hbc)
   have Y4 := hQ_ (Y3.out.below hbc)
   skip
   have f4_X0 := cC7 X4.out
   have f4_Y0 := cC7 Y4.out
   clear hbc f3_X0 f3_Y0
   clear he2
   go_wp2_with fail
   go_ret
   exact Ans.ok A4.out ⟨C3.out.1.more (by omega) (by omega),C3.out.2⟩
theorem ren_err2_1 (hW0 : Wk Rep) (hRn : RangeN Rep) {w : World} {v : Value} {s : Vs} {S D : Nat → Prop} (old path : ByteArray) {xd xi xk xl xz xp er : Int} {xn : ByteArray} {yd yi yk yl yz yp er2 : Int} {yn : ByteArray} (hr : Rep w v s S D) (hl : Lim s) (h2 : s.rd.length ≤ 18000) (h3 : s.rg.length ≤ 900) (hx : Mxs w S) (hp : old.size ≤ 100000) (hp2 : path.size ≤ 100000) (hR : findM s.shown old = (⟨xd,xn,xi,⟨xk,xl,xz,xp⟩⟩,er)) (hR2 : findM s.shown path = (⟨yd,yn,yi,⟨yk,yl,yz,yp⟩⟩,er2)) (he : er = 0) (h0 : xi ≠ 0) (h1 : xi ≠ 1) (he2 : er2 ≠ 0) (h3 : yi = 1) :
 Calls Tryz.prog 85 #[v,.string old,.string path] w (Ans Rep v s er2 [] 84 1 S D w) := by
 have A0 := hQ_ (At.start hr)
 have HX := hQ_ hx
 have HS := hQ_ hW0.stays
 have HL := hQ_ hl
 have C0 := hQ_ (aft0 s)
 have HWT := hQ_ when_t
 have HWF := hQ_ when_f
 have HFI := hQ_ (fun w (S D : Nat → Prop) (t : Vs) (hr : Rep w v t S D) (hsm : Sm t s) hl h2 hx => find_c hW0 old hR hr hsm hl h2 hp hx)
 unfold FndC at HFI
 have hsbx := find_bd s.shown old
 have hibx := find_ib s.shown old
 rw [hR] at hsbx hibx
 obtain ⟨x0,x1,x2,x3,x4⟩ := hsbx
 dsimp only at x0 x1 x2 x3 x4 HFI hibx
 have HFJ := hQ_ (fun w (S D : Nat → Prop) (t : Vs) (hr : Rep w v t S D) (hsm : Sm t s) hl h2 hx => find_c hW0 path hR2 hr hsm hl h2 hp2 hx)
 unfold FndC at HFJ
 have hsby := find_bd s.shown path
 have hiby := find_ib s.shown path
 rw [hR2] at hsby hiby
 obtain ⟨y0,y1,y2,y3,y4⟩ := hsby
 dsimp only at y0 y1 y2 y3 y4 HFJ hiby
 subst he
 have d1 : (xi == 1) = false := by simpa using h1
 have d2 : (xi == 0) = false := by simpa using h0
 have d3 : (er2 != 0) = true := by simpa using he2
 have d4 : (yi == 1) = true := by simpa using h3
 clear hr hl hp hp2 hR hW0 hR2 hx h0 h1 h3
 go_enter Tryz.func85,Tryz.ntmps85
 go_wp2_with fail
 refine (HFI.out _ _ _ _ A0.out.rep (Aft.sm0 C0.out.1) (lim_aft C0.out.1 HL.out (by omega) (by omega)) (by have := C0.out.1.rd; omega) (HX.out.at_ A0.out).1).mono ?_
 rintro e w1 ⟨s1,S1,D1,rfl,hr,st,hsm,hrd,hrg⟩
 have C1 := hQ_ (aftF C0.out hsm hrd hrg)
 have X1 := hQ_ (Blk.new_ w1 #[.int .u32 xd,.string xn,.int .u32 xi,.int .u8 xk,.int .u32 xl,.int .u32 xz,.int .u32 xp] 150)
 have hbn := bX_ X1.out
 have AQ := A0.out.step HS.out hr st
 have A1 := hQ_ (AQ.own HS.out hbn (Nat.le_refl w1.heap.size) (by simp))
 have f1_X0 := cC7 X1.out
 clear hr st hsm hrd hrg hbn AQ
 have FE2 : fst_ [0,0,0] = 0 := rfl
 have HF2 := hQ_ (first_3b (0) (0) (0) (w1.alloc (.cells #[.int .u32 xd,.string xn,.int .u32 xi,.int .u8 xk,.int .u32 xl,.int .u32 xz,.int .u32 xp] 150)) (w1.heap.size + 1) (by simp))
 rw [FE2] at HF2
 clear FE2
 go_upto_region 2 with (fail)
 go_cut [9] (fun p wx => p = .int .i64 (0) ∧ BL_ (w1.alloc (.cells #[.int .u32 xd,.string xn,.int .u32 xi,.int .u8 xk,.int .u32 xl,.int .u32 xz,.int .u32 xp] 150)) wx)
 case first =>
  go_region_law (first | (go_simp; go_at_call 99; (with_reducible refine (HWT.out _ _).mono ?_); rintro e w9 ⟨rfl,rfl⟩) | (go_simp; go_at_call 99; (with_reducible refine (HWF.out _ _).mono ?_); rintro e w9 ⟨rfl,rfl⟩) | (go_simp; go_at_call 98; (first | (with_reducible refine HF2.out.1.mono ?_) | (with_reducible refine HF2.out.2.mono ?_)); rintro e w9 ⟨rfl,rfl⟩))
  all_goals
   go_wp2_with fail
   go_meet
   exact fB_
 case rest =>
  obtain ⟨rfl,hbc⟩ := hcut
  have A2 := hQ_ (A1.out.below HS.out hbc)
  have X2 := hQ_ (X1.out.below hbc)
  skip
  have f2_X0 := cC7 X2.out
  clear hbc f1_X0
  go_wp2_with fail
  refine (HFJ.out _ _ _ _ A2.out.rep (Aft.sm0 C1.out.1) (lim_aft C1.out.1 HL.out (by omega) (by omega)) (by have := C1.out.1.rd; omega) (HX.out.at_ A2.out).1).mono ?_
  rintro e w3 ⟨s3,S3,D3,rfl,hr,st,hsm,hrd,hrg⟩
  have C3 := hQ_ (aftF C1.out hsm hrd hrg)
  have Y3 := hQ_ (Blk.new_ w3 #[.int .u32 yd,.string yn,.int .u32 yi,.int .u8 yk,.int .u32 yl,.int .u32 yz,.int .u32 yp] 150)
  have hbn := bX_ Y3.out
  have AQ := A2.out.step HS.out hr st
  have A3 := hQ_ (AQ.own HS.out hbn (Nat.le_refl w3.heap.size) (by simp))
  have X3 := hQ_ ((A2.out.blk HS.out X2.out (.inr rfl) st).below hbn)
  have f3_X0 := cC7 X3.out
  have f3_Y0 := cC7 Y3.out
  clear hr st hsm hrd hrg hbn AQ f2_X0
  have FE4 : fst_ [er2,29] = er2 := by unfold fst_; rw [if_neg he2]
  have HF4 := hQ_ (first_2b (er2) (29) (w3.alloc (.cells #[.int .u32 yd,.string yn,.int .u32 yi,.int .u8 yk,.int .u32 yl,.int .u32 yz,.int .u32 yp] 150)) (w3.heap.size + 1) (by simp))
  rw [FE4] at HF4
  clear FE4
  go_upto_region 6 with (fail)
  go_cut [11] (fun p wx => p = .int .i64 (er2) ∧ BL_ (w3.alloc (.cells #[.int .u32 yd,.string yn,.int .u32 yi,.int .u8 yk,.int .u32 yl,.int .u32 yz,.int .u32 yp] 150)) wx)
  case first =>
   go_wp2_with (first | (go_at_call 99; (with_reducible refine (HWT.out _ _).mono ?_); rintro e w9 ⟨rfl,rfl⟩) | (go_at_call 99; (with_reducible refine (HWF.out _ _).mono ?_); rintro e w9 ⟨rfl,rfl⟩) | (go_at_call 98; (with_reducible refine HF4.out.1.mono ?_); rintro e w9 ⟨rfl,rfl⟩))
   all_goals
    go_meet
    exact fB_
  case rest =>
   obtain ⟨rfl,hbc⟩ := hcut
   have A4 := hQ_ (A3.out.below HS.out hbc)
   have X4 := hQ_ (X3.out.below hbc)
   have Y4 := hQ_ (Y3.out.below hbc)
   skip
   have f4_X0 := cC7 X4.out
   have f4_Y0 := cC7 Y4.out
   clear hbc f3_X0 f3_Y0
   clear he2
   go_wp2_with fail
   go_ret
   exact Ans.ok A4.out ⟨C3.out.1.more (by omega) (by omega),C3.out.2⟩
theorem ren_root2 (hW0 : Wk Rep) (hRn : RangeN Rep) {w : World} {v : Value} {s : Vs} {S D : Nat → Prop} (old path : ByteArray) {xd xi xk xl xz xp er : Int} {xn : ByteArray} {yd yi yk yl yz yp er2 : Int} {yn : ByteArray} (hr : Rep w v s S D) (hl : Lim s) (h2 : s.rd.length ≤ 18000) (h3 : s.rg.length ≤ 900) (hx : Mxs w S) (hp : old.size ≤ 100000) (hp2 : path.size ≤ 100000) (hR : findM s.shown old = (⟨xd,xn,xi,⟨xk,xl,xz,xp⟩⟩,er)) (hR2 : findM s.shown path = (⟨yd,yn,yi,⟨yk,yl,yz,yp⟩⟩,er2)) (he : er = 0) (h0 : xi ≠ 0) (h1 : xi ≠ 1) (he2 : er2 = 0) (h3 : yi = 1) :
 Calls Tryz.prog 85 #[v,.string old,.string path] w (Ans Rep v s 29 [] 84 1 S D w) := by
 have A0 := hQ_ (At.start hr)
 have HX := hQ_ hx
 have HS := hQ_ hW0.stays
 have HL := hQ_ hl
 have C0 := hQ_ (aft0 s)
 have HWT := hQ_ when_t
 have HWF := hQ_ when_f
 have HFI := hQ_ (fun w (S D : Nat → Prop) (t : Vs) (hr : Rep w v t S D) (hsm : Sm t s) hl h2 hx => find_c hW0 old hR hr hsm hl h2 hp hx)
 unfold FndC at HFI
 have hsbx := find_bd s.shown old
 have hibx := find_ib s.shown old
 rw [hR] at hsbx hibx
 obtain ⟨x0,x1,x2,x3,x4⟩ := hsbx
 dsimp only at x0 x1 x2 x3 x4 HFI hibx
 have HFJ := hQ_ (fun w (S D : Nat → Prop) (t : Vs) (hr : Rep w v t S D) (hsm : Sm t s) hl h2 hx => find_c hW0 path hR2 hr hsm hl h2 hp2 hx)
 unfold FndC at HFJ
 have hsby := find_bd s.shown path
 have hiby := find_ib s.shown path
 rw [hR2] at hsby hiby
 obtain ⟨y0,y1,y2,y3,y4⟩ := hsby
 dsimp only at y0 y1 y2 y3 y4 HFJ hiby
 subst he
 have d1 : (xi == 1) = false := by simpa using h1
 have d2 : (xi == 0) = false := by simpa using h0
 subst he2
 have d4 : (yi == 1) = true := by simpa using h3
 clear hr hl hp hp2 hR hW0 hR2 hx h0 h1 h3
 go_enter Tryz.func85,Tryz.ntmps85
 go_wp2_with fail
 refine (HFI.out _ _ _ _ A0.out.rep (Aft.sm0 C0.out.1) (lim_aft C0.out.1 HL.out (by omega) (by omega)) (by have := C0.out.1.rd; omega) (HX.out.at_ A0.out).1).mono ?_
 rintro e w1 ⟨s1,S1,D1,rfl,hr,st,hsm,hrd,hrg⟩
 have C1 := hQ_ (aftF C0.out hsm hrd hrg)
 have X1 := hQ_ (Blk.new_ w1 #[.int .u32 xd,.string xn,.int .u32 xi,.int .u8 xk,.int .u32 xl,.int .u32 xz,.int .u32 xp] 150)
 have hbn := bX_ X1.out
 have AQ := A0.out.step HS.out hr st
 have A1 := hQ_ (AQ.own HS.out hbn (Nat.le_refl w1.heap.size) (by simp))
 have f1_X0 := cC7 X1.out
 clear hr st hsm hrd hrg hbn AQ
 have FE2 : fst_ [0,0,0] = 0 := rfl
 have HF2 := hQ_ (first_3b (0) (0) (0) (w1.alloc (.cells #[.int .u32 xd,.string xn,.int .u32 xi,.int .u8 xk,.int .u32 xl,.int .u32 xz,.int .u32 xp] 150)) (w1.heap.size + 1) (by simp))
 rw [FE2] at HF2
 clear FE2
 go_upto_region 2 with (fail)
 go_cut [9] (fun p wx => p = .int .i64 (0) ∧ BL_ (w1.alloc (.cells #[.int .u32 xd,.string xn,.int .u32 xi,.int .u8 xk,.int .u32 xl,.int .u32 xz,.int .u32 xp] 150)) wx)
 case first =>
  go_region_law (first | (go_simp; go_at_call 99; (with_reducible refine (HWT.out _ _).mono ?_); rintro e w9 ⟨rfl,rfl⟩) | (go_simp; go_at_call 99; (with_reducible refine (HWF.out _ _).mono ?_); rintro e w9 ⟨rfl,rfl⟩) | (go_simp; go_at_call 98; (first | (with_reducible refine HF2.out.1.mono ?_) | (with_reducible refine HF2.out.2.mono ?_)); rintro e w9 ⟨rfl,rfl⟩))
  all_goals
   go_wp2_with fail
   go_meet
   exact fB_
 case rest =>
  obtain ⟨rfl,hbc⟩ := hcut
  have A2 := hQ_ (A1.out.below HS.out hbc)
  have X2 := hQ_ (X1.out.below hbc)
  skip
  have f2_X0 := cC7 X2.out
  clear hbc f1_X0
  go_wp2_with fail
  refine (HFJ.out _ _ _ _ A2.out.rep (Aft.sm0 C1.out.1) (lim_aft C1.out.1 HL.out (by omega) (by omega)) (by have := C1.out.1.rd; omega) (HX.out.at_ A2.out).1).mono ?_
  rintro e w3 ⟨s3,S3,D3,rfl,hr,st,hsm,hrd,hrg⟩
  have C3 := hQ_ (aftF C1.out hsm hrd hrg)
  have Y3 := hQ_ (Blk.new_ w3 #[.int .u32 yd,.string yn,.int .u32 yi,.int .u8 yk,.int .u32 yl,.int .u32 yz,.int .u32 yp] 150)
  have hbn := bX_ Y3.out
  have AQ := A2.out.step HS.out hr st
  have A3 := hQ_ (AQ.own HS.out hbn (Nat.le_refl w3.heap.size) (by simp))
  have X3 := hQ_ ((A2.out.blk HS.out X2.out (.inr rfl) st).below hbn)
  have f3_X0 := cC7 X3.out
  have f3_Y0 := cC7 Y3.out
  clear hr st hsm hrd hrg hbn AQ f2_X0
  have FE4 : fst_ [0,29] = 29 := rfl
  have HF4 := hQ_ (first_2b (0) (29) (w3.alloc (.cells #[.int .u32 yd,.string yn,.int .u32 yi,.int .u8 yk,.int .u32 yl,.int .u32 yz,.int .u32 yp] 150)) (w3.heap.size + 1) (by simp))
  rw [FE4] at HF4
  clear FE4
  go_upto_region 6 with (fail)
  go_cut [11] (fun p wx => p = .int .i64 (29) ∧ BL_ (w3.alloc (.cells #[.int .u32 yd,.string yn,.int .u32 yi,.int .u8 yk,.int .u32 yl,.int .u32 yz,.int .u32 yp] 150)) wx)
  case first =>
   go_wp2_with (first | (go_at_call 99; (with_reducible refine (HWT.out _ _).mono ?_); rintro e w9 ⟨rfl,rfl⟩) | (go_at_call 99; (with_reducible refine (HWF.out _ _).mono ?_); rintro e w9 ⟨rfl,rfl⟩) | (go_at_call 98; (with_reducible refine HF4.out.1.mono ?_); rintro e w9 ⟨rfl,rfl⟩))
   all_goals
    go_meet
    exact fB_
  case rest =>
   obtain ⟨rfl,hbc⟩ := hcut
   have A4 := hQ_ (A3.out.below HS.out hbc)
   have X4 := hQ_ (X3.out.below hbc)
   have Y4 := hQ_ (Y3.out.below hbc)
   skip
   have f4_X0 := cC7 X4.out
   have f4_Y0 := cC7 Y4.out
   clear hbc f3_X0 f3_Y0
   go_wp2_with fail
   go_ret
   exact Ans.ok A4.out ⟨C3.out.1.more (by omega) (by omega),C3.out.2⟩
theorem ren_same (hW0 : Wk Rep) (hRn : RangeN Rep) {w : World} {v : Value} {s : Vs} {S D : Nat → Prop} (old path : ByteArray) {xd xi xk xl xz xp er : Int} {xn : ByteArray} {yd yi yk yl yz yp er2 : Int} {yn : ByteArray} (hr : Rep w v s S D) (hl : Lim s) (h2 : s.rd.length ≤ 18000) (h3 : s.rg.length ≤ 900) (hx : Mxs w S) (hp : old.size ≤ 100000) (hp2 : path.size ≤ 100000) (hR : findM s.shown old = (⟨xd,xn,xi,⟨xk,xl,xz,xp⟩⟩,er)) (hR2 : findM s.shown path = (⟨yd,yn,yi,⟨yk,yl,yz,yp⟩⟩,er2)) (he : er = 0) (h0 : xi ≠ 0) (h1 : xi ≠ 1) (he2 : er2 = 0) (h3 : yi ≠ 1) (h4 : xi = yi) :
 Calls Tryz.prog 85 #[v,.string old,.string path] w (Ans Rep v s 0 [] 84 1 S D w) := by
 have A0 := hQ_ (At.start hr)
 have HX := hQ_ hx
 have HS := hQ_ hW0.stays
 have HL := hQ_ hl
 have C0 := hQ_ (aft0 s)
 have HWT := hQ_ when_t
 have HWF := hQ_ when_f
 have HFI := hQ_ (fun w (S D : Nat → Prop) (t : Vs) (hr : Rep w v t S D) (hsm : Sm t s) hl h2 hx => find_c hW0 old hR hr hsm hl h2 hp hx)
 unfold FndC at HFI
 have hsbx := find_bd s.shown old
 have hibx := find_ib s.shown old
 rw [hR] at hsbx hibx
 obtain ⟨x0,x1,x2,x3,x4⟩ := hsbx
 dsimp only at x0 x1 x2 x3 x4 HFI hibx
 have HFJ := hQ_ (fun w (S D : Nat → Prop) (t : Vs) (hr : Rep w v t S D) (hsm : Sm t s) hl h2 hx => find_c hW0 path hR2 hr hsm hl h2 hp2 hx)
 unfold FndC at HFJ
 have hsby := find_bd s.shown path
 have hiby := find_ib s.shown path
 rw [hR2] at hsby hiby
 obtain ⟨y0,y1,y2,y3,y4⟩ := hsby
 dsimp only at y0 y1 y2 y3 y4 HFJ hiby
 subst he
 have d1 : (xi == 1) = false := by simpa using h1
 have d2 : (xi == 0) = false := by simpa using h0
 subst he2
 have d4 : (yi == 1) = false := by simpa using h3
 have d5 : (xi == yi) = true := by simpa using h4
 clear hr hl hp hp2 hR hW0 hR2 hx h0 h1 h3 h4
 go_enter Tryz.func85,Tryz.ntmps85
 go_wp2_with fail
 refine (HFI.out _ _ _ _ A0.out.rep (Aft.sm0 C0.out.1) (lim_aft C0.out.1 HL.out (by omega) (by omega)) (by have := C0.out.1.rd; omega) (HX.out.at_ A0.out).1).mono ?_
 rintro e w1 ⟨s1,S1,D1,rfl,hr,st,hsm,hrd,hrg⟩
 have C1 := hQ_ (aftF C0.out hsm hrd hrg)
 have X1 := hQ_ (Blk.new_ w1 #[.int .u32 xd,.string xn,.int .u32 xi,.int .u8 xk,.int .u32 xl,.int .u32 xz,.int .u32 xp] 150)
 have hbn := bX_ X1.out
 have AQ := A0.out.step HS.out hr st
 have A1 := hQ_ (AQ.own HS.out hbn (Nat.le_refl w1.heap.size) (by simp))
 have f1_X0 := cC7 X1.out
 clear hr st hsm hrd hrg hbn AQ
 have FE2 : fst_ [0,0,0] = 0 := rfl
 have HF2 := hQ_ (first_3b (0) (0) (0) (w1.alloc (.cells #[.int .u32 xd,.string xn,.int .u32 xi,.int .u8 xk,.int .u32 xl,.int .u32 xz,.int .u32 xp] 150)) (w1.heap.size + 1) (by simp))
 rw [FE2] at HF2
 clear FE2
 go_upto_region 2 with (fail)
 go_cut [9] (fun p wx => p = .int .i64 (0) ∧ BL_ (w1.alloc (.cells #[.int .u32 xd,.string xn,.int .u32 xi,.int .u8 xk,.int .u32 xl,.int .u32 xz,.int .u32 xp] 150)) wx)
 case first =>
  go_region_law (first | (go_simp; go_at_call 99; (with_reducible refine (HWT.out _ _).mono ?_); rintro e w9 ⟨rfl,rfl⟩) | (go_simp; go_at_call 99; (with_reducible refine (HWF.out _ _).mono ?_); rintro e w9 ⟨rfl,rfl⟩) | (go_simp; go_at_call 98; (first | (with_reducible refine HF2.out.1.mono ?_) | (with_reducible refine HF2.out.2.mono ?_)); rintro e w9 ⟨rfl,rfl⟩))
  all_goals
   go_wp2_with fail
   go_meet
   exact fB_
 case rest =>
  obtain ⟨rfl,hbc⟩ := hcut
  have A2 := hQ_ (A1.out.below HS.out hbc)
  have X2 := hQ_ (X1.out.below hbc)
  skip
  have f2_X0 := cC7 X2.out
  clear hbc f1_X0
  go_wp2_with fail
  refine (HFJ.out _ _ _ _ A2.out.rep (Aft.sm0 C1.out.1) (lim_aft C1.out.1 HL.out (by omega) (by omega)) (by have := C1.out.1.rd; omega) (HX.out.at_ A2.out).1).mono ?_
  rintro e w3 ⟨s3,S3,D3,rfl,hr,st,hsm,hrd,hrg⟩
  have C3 := hQ_ (aftF C1.out hsm hrd hrg)
  have Y3 := hQ_ (Blk.new_ w3 #[.int .u32 yd,.string yn,.int .u32 yi,.int .u8 yk,.int .u32 yl,.int .u32 yz,.int .u32 yp] 150)
  have hbn := bX_ Y3.out
  have AQ := A2.out.step HS.out hr st
  have A3 := hQ_ (AQ.own HS.out hbn (Nat.le_refl w3.heap.size) (by simp))
  have X3 := hQ_ ((A2.out.blk HS.out X2.out (.inr rfl) st).below hbn)
  have f3_X0 := cC7 X3.out
  have f3_Y0 := cC7 Y3.out
  clear hr st hsm hrd hrg hbn AQ f2_X0
  have FE4 : fst_ [0,0] = 0 := rfl
  have HF4 := hQ_ (first_2b (0) (0) (w3.alloc (.cells #[.int .u32 yd,.string yn,.int .u32 yi,.int .u8 yk,.int .u32 yl,.int .u32 yz,.int .u32 yp] 150)) (w3.heap.size + 1) (by simp))
  rw [FE4] at HF4
  clear FE4
  go_upto_region 6 with (fail)
  go_cut [11] (fun p wx => p = .int .i64 (0) ∧ BL_ (w3.alloc (.cells #[.int .u32 yd,.string yn,.int .u32 yi,.int .u8 yk,.int .u32 yl,.int .u32 yz,.int .u32 yp] 150)) wx)
  case first =>
   go_wp2_with (first | (go_at_call 99; (with_reducible refine (HWT.out _ _).mono ?_); rintro e w9 ⟨rfl,rfl⟩) | (go_at_call 99; (with_reducible refine (HWF.out _ _).mono ?_); rintro e w9 ⟨rfl,rfl⟩) | (go_at_call 98; (with_reducible refine HF4.out.1.mono ?_); rintro e w9 ⟨rfl,rfl⟩))
   all_goals
    go_meet
    exact fB_
  case rest =>
   obtain ⟨rfl,hbc⟩ := hcut
   have A4 := hQ_ (A3.out.below HS.out hbc)
   have X4 := hQ_ (X3.out.below hbc)
   have Y4 := hQ_ (Y3.out.below hbc)
   skip
   have f4_X0 := cC7 X4.out
   have f4_Y0 := cC7 Y4.out
   clear hbc f3_X0 f3_Y0
   go_wp2_with fail
   go_ret
   exact Ans.ok A4.out ⟨C3.out.1.more (by omega) (by omega),C3.out.2⟩
theorem ren_into (hW0 : Wk Rep) (hRn : RangeN Rep) {w : World} {v : Value} {s : Vs} {S D : Nat → Prop} (old path : ByteArray) {xd xi xk xl xz xp er : Int} {xn : ByteArray} {yd yi yk yl yz yp er2 : Int} {yn : ByteArray} (hr : Rep w v s S D) (hl : Lim s) (h2 : s.rd.length ≤ 18000) (h3 : s.rg.length ≤ 900) (hx : Mxs w S) (hp : old.size ≤ 100000) (hp2 : path.size ≤ 100000) (hR : findM s.shown old = (⟨xd,xn,xi,⟨xk,xl,xz,xp⟩⟩,er)) (hR2 : findM s.shown path = (⟨yd,yn,yi,⟨yk,yl,yz,yp⟩⟩,er2)) (he : er = 0) (h0 : xi ≠ 0) (h1 : xi ≠ 1) (he2 : er2 = 0) (h3 : yi ≠ 1) (h4 : xi ≠ yi) (h5 : xk = 2) (hu : under (spl old).1 (spl path).1 = true) :
 Calls Tryz.prog 85 #[v,.string old,.string path] w (Ans Rep v s 15 [] 84 1 S D w) := by
 have A0 := hQ_ (At.start hr)
 have HX := hQ_ hx
 have HS := hQ_ hW0.stays
 have HL := hQ_ hl
 have C0 := hQ_ (aft0 s)
 have HWT := hQ_ when_t
 have HWF := hQ_ when_f
 have HFI := hQ_ (fun w (S D : Nat → Prop) (t : Vs) (hr : Rep w v t S D) (hsm : Sm t s) hl h2 hx => find_c hW0 old hR hr hsm hl h2 hp hx)
 unfold FndC at HFI
 have hsbx := find_bd s.shown old
 have hibx := find_ib s.shown old
 rw [hR] at hsbx hibx
 obtain ⟨x0,x1,x2,x3,x4⟩ := hsbx
 dsimp only at x0 x1 x2 x3 x4 HFI hibx
 have HFJ := hQ_ (fun w (S D : Nat → Prop) (t : Vs) (hr : Rep w v t S D) (hsm : Sm t s) hl h2 hx => find_c hW0 path hR2 hr hsm hl h2 hp2 hx)
 unfold FndC at HFJ
 have hsby := find_bd s.shown path
 have hiby := find_ib s.shown path
 rw [hR2] at hsby hiby
 obtain ⟨y0,y1,y2,y3,y4⟩ := hsby
 dsimp only at y0 y1 y2 y3 y4 HFJ hiby
 subst he
 have d1 : (xi == 1) = false := by simpa using h1
 have d2 : (xi == 0) = false := by simpa using h0
 subst he2
 have d4 : (yi == 1) = false := by simpa using h3
 have d5 : (xi == yi) = false := by simpa using h4
 have HWI := hQ_ (fun w (hx : Mx w) => within_calls old path w hp hp2 hx)
 have HUN := hQ_ hu
 have d6 : (xk == 2) = true := by simpa using h5
 clear hr hl hp hp2 hR hW0 hR2 hx h0 h1 h3 h4 h5 hu
 go_enter Tryz.func85,Tryz.ntmps85
 go_wp2_with fail
 refine (HFI.out _ _ _ _ A0.out.rep (Aft.sm0 C0.out.1) (lim_aft C0.out.1 HL.out (by omega) (by omega)) (by have := C0.out.1.rd; omega) (HX.out.at_ A0.out).1).mono ?_
 rintro e w1 ⟨s1,S1,D1,rfl,hr,st,hsm,hrd,hrg⟩
 have C1 := hQ_ (aftF C0.out hsm hrd hrg)
 have X1 := hQ_ (Blk.new_ w1 #[.int .u32 xd,.string xn,.int .u32 xi,.int .u8 xk,.int .u32 xl,.int .u32 xz,.int .u32 xp] 150)
 have hbn := bX_ X1.out
 have AQ := A0.out.step HS.out hr st
 have A1 := hQ_ (AQ.own HS.out hbn (Nat.le_refl w1.heap.size) (by simp))
 have f1_X0 := cC7 X1.out
 clear hr st hsm hrd hrg hbn AQ
 have FE2 : fst_ [0,0,0] = 0 := rfl
 have HF2 := hQ_ (first_3b (0) (0) (0) (w1.alloc (.cells #[.int .u32 xd,.string xn,.int .u32 xi,.int .u8 xk,.int .u32 xl,.int .u32 xz,.int .u32 xp] 150)) (w1.heap.size + 1) (by simp))
 rw [FE2] at HF2
 clear FE2
 go_upto_region 2 with (fail)
 go_cut [9] (fun p wx => p = .int .i64 (0) ∧ BL_ (w1.alloc (.cells #[.int .u32 xd,.string xn,.int .u32 xi,.int .u8 xk,.int .u32 xl,.int .u32 xz,.int .u32 xp] 150)) wx)
 case first =>
  go_region_law (first | (go_simp; go_at_call 99; (with_reducible refine (HWT.out _ _).mono ?_); rintro e w9 ⟨rfl,rfl⟩) | (go_simp; go_at_call 99; (with_reducible refine (HWF.out _ _).mono ?_); rintro e w9 ⟨rfl,rfl⟩) | (go_simp; go_at_call 98; (first | (with_reducible refine HF2.out.1.mono ?_) | (with_reducible refine HF2.out.2.mono ?_)); rintro e w9 ⟨rfl,rfl⟩))
  all_goals
   go_wp2_with fail
   go_meet
   exact fB_
 case rest =>
  obtain ⟨rfl,hbc⟩ := hcut
  have A2 := hQ_ (A1.out.below HS.out hbc)
  have X2 := hQ_ (X1.out.below hbc)
  skip
  have f2_X0 := cC7 X2.out
  clear hbc f1_X0
  go_wp2_with fail
  refine (HFJ.out _ _ _ _ A2.out.rep (Aft.sm0 C1.out.1) (lim_aft C1.out.1 HL.out (by omega) (by omega)) (by have := C1.out.1.rd; omega) (HX.out.at_ A2.out).1).mono ?_
  rintro e w3 ⟨s3,S3,D3,rfl,hr,st,hsm,hrd,hrg⟩
  have C3 := hQ_ (aftF C1.out hsm hrd hrg)
  have Y3 := hQ_ (Blk.new_ w3 #[.int .u32 yd,.string yn,.int .u32 yi,.int .u8 yk,.int .u32 yl,.int .u32 yz,.int .u32 yp] 150)
  have hbn := bX_ Y3.out
  have AQ := A2.out.step HS.out hr st
  have A3 := hQ_ (AQ.own HS.out hbn (Nat.le_refl w3.heap.size) (by simp))
  have X3 := hQ_ ((A2.out.blk HS.out X2.out (.inr rfl) st).below hbn)
  have f3_X0 := cC7 X3.out
  have f3_Y0 := cC7 Y3.out
  clear hr st hsm hrd hrg hbn AQ f2_X0
  have FE4 : fst_ [0,0] = 0 := rfl
  have HF4 := hQ_ (first_2b (0) (0) (w3.alloc (.cells #[.int .u32 yd,.string yn,.int .u32 yi,.int .u8 yk,.int .u32 yl,.int .u32 yz,.int .u32 yp] 150)) (w3.heap.size + 1) (by simp))
  rw [FE4] at HF4
  clear FE4
  go_upto_region 6 with (fail)
  go_cut [11] (fun p wx => p = .int .i64 (0) ∧ BL_ (w3.alloc (.cells #[.int .u32 yd,.string yn,.int .u32 yi,.int .u8 yk,.int .u32 yl,.int .u32 yz,.int .u32 yp] 150)) wx)
  case first =>
   go_wp2_with (first | (go_at_call 99; (with_reducible refine (HWT.out _ _).mono ?_); rintro e w9 ⟨rfl,rfl⟩) | (go_at_call 99; (with_reducible refine (HWF.out _ _).mono ?_); rintro e w9 ⟨rfl,rfl⟩) | (go_at_call 98; (with_reducible refine HF4.out.1.mono ?_); rintro e w9 ⟨rfl,rfl⟩))
   all_goals
    go_meet
    exact fB_
  case rest =>
   obtain ⟨rfl,hbc⟩ := hcut
   have A4 := hQ_ (A3.out.below HS.out hbc)
   have X4 := hQ_ (X3.out.below hbc)
   have Y4 := hQ_ (Y3.out.below hbc)
   skip
   have f4_X0 := cC7 X4.out
   have f4_Y0 := cC7 Y4.out
   clear hbc f3_X0 f3_Y0
   go_wp2_with fail
   refine (HWI.out _ (HX.out.at_ A4.out).1).mono ?_
   rw [HUN.out]
   rintro e w5 ⟨rfl,hbn⟩
   have A5 := hQ_ (A4.out.below HS.out hbn)
   have X5 := hQ_ (X4.out.below hbn)
   have Y5 := hQ_ (Y4.out.below hbn)
   have f5_X0 := cC7 X5.out
   have f5_Y0 := cC7 Y5.out
   clear hbn f4_X0 f4_Y0
   go_wp2_with fail
   go_ret
   exact Ans.ok A5.out ⟨C3.out.1.more (by omega) (by omega),C3.out.2⟩
theorem ren_rep_t (hW0 : Wk Rep) (hRn : RangeN Rep) {w : World} {v : Value} {s : Vs} {S D : Nat → Prop} (old path : ByteArray) {xd xi xk xl xz xp er : Int} {xn : ByteArray} {yd yi yk yl yz yp er2 : Int} {yn : ByteArray} (hr : Rep w v s S D) (hl : Lim s) (h2 : s.rd.length ≤ 18000) (h3 : s.rg.length ≤ 900) (hx : Mxs w S) (hp : old.size ≤ 100000) (hp2 : path.size ≤ 100000) (hR : findM s.shown old = (⟨xd,xn,xi,⟨xk,xl,xz,xp⟩⟩,er)) (hR2 : findM s.shown path = (⟨yd,yn,yi,⟨yk,yl,yz,yp⟩⟩,er2)) (he : er = 0) (h0 : xi ≠ 0) (h1 : xi ≠ 1) (he2 : er2 = 0) (h3 : yi ≠ 1) (h4 : xi ≠ yi) (hk : ∀ p ∈ s.shown,(sp p.key).letter ≠ 0) (h5 : xk = 2) (hu : under (spl old).1 (spl path).1 = false) {rx : Int} {ps : List Wrt} (hrx : clrB s.shown ⟨yd,yn,yi,⟨yk,yl,yz,yp⟩⟩ true = (rx,ps)) (hx0 : rx ≠ 0) :
 Calls Tryz.prog 85 #[v,.string old,.string path] w (Ans Rep v s rx [] 84 1 S D w) := by
 have A0 := hQ_ (At.start hr)
 have HX := hQ_ hx
 have HS := hQ_ hW0.stays
 have HL := hQ_ hl
 have C0 := hQ_ (aft0 s)
 have HWT := hQ_ when_t
 have HWF := hQ_ when_f
 have HFI := hQ_ (fun w (S D : Nat → Prop) (t : Vs) (hr : Rep w v t S D) (hsm : Sm t s) hl h2 hx => find_c hW0 old hR hr hsm hl h2 hp hx)
 unfold FndC at HFI
 have hsbx := find_bd s.shown old
 have hibx := find_ib s.shown old
 rw [hR] at hsbx hibx
 obtain ⟨x0,x1,x2,x3,x4⟩ := hsbx
 dsimp only at x0 x1 x2 x3 x4 HFI hibx
 have HFJ := hQ_ (fun w (S D : Nat → Prop) (t : Vs) (hr : Rep w v t S D) (hsm : Sm t s) hl h2 hx => find_c hW0 path hR2 hr hsm hl h2 hp2 hx)
 unfold FndC at HFJ
 have hsby := find_bd s.shown path
 have hiby := find_ib s.shown path
 rw [hR2] at hsby hiby
 obtain ⟨y0,y1,y2,y3,y4⟩ := hsby
 dsimp only at y0 y1 y2 y3 y4 HFJ hiby
 have hps : ps = [] := by
  have h := clrB_err (L := s.shown) (x := ⟨yd,yn,yi,⟨yk,yl,yz,yp⟩⟩) (d := true) (by rw [hrx]; exact hx0)
  rw [hrx] at h
  exact h
 subst hps
 subst he
 have d1 : (xi == 1) = false := by simpa using h1
 have d2 : (xi == 0) = false := by simpa using h0
 subst he2
 have d4 : (yi == 1) = false := by simpa using h3
 have d5 : (xi == yi) = false := by simpa using h4
 have HWI := hQ_ (fun w (hx : Mx w) => within_calls old path w hp hp2 hx)
 have HUN := hQ_ hu
 have d6 : (xk == 2) = true := by simpa using h5
 clear hu
 have HRC := hQ_ (fun w (S D : Nat → Prop) (t : Vs) (hr : Rep w v t S D) (hsm : Sm t s) (hl : Lim t) (h2 : t.rd.length ≤ 19900) (h3 : t.rg.length ≤ 985) => show Calls _ _ _ _ (Ans Rep v t (clrB s.shown ⟨yd,yn,yi,⟨yk,yl,yz,yp⟩⟩ true).1 (clrB s.shown ⟨yd,yn,yi,⟨yk,yl,yz,yp⟩⟩ true).2 1 1 S D w) by have h := DirsBd.replace_calls hW0 hRn yd yi yk yl yz yp xk yn hr hl h2 h3 y0 y1 y2 y3 y4 hiby (by rw [hsm.shown]; exact hk); rw [hsm.shown,decide_eq_true h5] at h; exact h)
 rw [hrx] at HRC
 dsimp only at HRC
 have d7 : (rx != 0) = true := by simpa using hx0
 clear hr hl hp hp2 hR hW0 hR2 hx h0 h1 h3 h4 h5 hk hrx hx0
 go_enter Tryz.func85,Tryz.ntmps85
 go_wp2_with fail
 refine (HFI.out _ _ _ _ A0.out.rep (Aft.sm0 C0.out.1) (lim_aft C0.out.1 HL.out (by omega) (by omega)) (by have := C0.out.1.rd; omega) (HX.out.at_ A0.out).1).mono ?_
 rintro e w1 ⟨s1,S1,D1,rfl,hr,st,hsm,hrd,hrg⟩
 have C1 := hQ_ (aftF C0.out hsm hrd hrg)
 have X1 := hQ_ (Blk.new_ w1 #[.int .u32 xd,.string xn,.int .u32 xi,.int .u8 xk,.int .u32 xl,.int .u32 xz,.int .u32 xp] 150)
 have hbn := bX_ X1.out
 have AQ := A0.out.step HS.out hr st
 have A1 := hQ_ (AQ.own HS.out hbn (Nat.le_refl w1.heap.size) (by simp))
 have f1_X0 := cC7 X1.out
 clear hr st hsm hrd hrg hbn AQ
 have FE2 : fst_ [0,0,0] = 0 := rfl
 have HF2 := hQ_ (first_3b (0) (0) (0) (w1.alloc (.cells #[.int .u32 xd,.string xn,.int .u32 xi,.int .u8 xk,.int .u32 xl,.int .u32 xz,.int .u32 xp] 150)) (w1.heap.size + 1) (by simp))
 rw [FE2] at HF2
 clear FE2
 go_upto_region 2 with (fail)
 go_cut [9] (fun p wx => p = .int .i64 (0) ∧ BL_ (w1.alloc (.cells #[.int .u32 xd,.string xn,.int .u32 xi,.int .u8 xk,.int .u32 xl,.int .u32 xz,.int .u32 xp] 150)) wx)
 case first =>
  go_region_law (first | (go_simp; go_at_call 99; (with_reducible refine (HWT.out _ _).mono ?_); rintro e w9 ⟨rfl,rfl⟩) | (go_simp; go_at_call 99; (with_reducible refine (HWF.out _ _).mono ?_); rintro e w9 ⟨rfl,rfl⟩) | (go_simp; go_at_call 98; (first | (with_reducible refine HF2.out.1.mono ?_) | (with_reducible refine HF2.out.2.mono ?_)); rintro e w9 ⟨rfl,rfl⟩))
  all_goals
   go_wp2_with fail
   go_meet
   exact fB_
 case rest =>
  obtain ⟨rfl,hbc⟩ := hcut
  have A2 := hQ_ (A1.out.below HS.out hbc)
  have X2 := hQ_ (X1.out.below hbc)
  skip
  have f2_X0 := cC7 X2.out
  clear hbc f1_X0
  go_wp2_with fail
  refine (HFJ.out _ _ _ _ A2.out.rep (Aft.sm0 C1.out.1) (lim_aft C1.out.1 HL.out (by omega) (by omega)) (by have := C1.out.1.rd; omega) (HX.out.at_ A2.out).1).mono ?_
  rintro e w3 ⟨s3,S3,D3,rfl,hr,st,hsm,hrd,hrg⟩
  have C3 := hQ_ (aftF C1.out hsm hrd hrg)
  have Y3 := hQ_ (Blk.new_ w3 #[.int .u32 yd,.string yn,.int .u32 yi,.int .u8 yk,.int .u32 yl,.int .u32 yz,.int .u32 yp] 150)
  have hbn := bX_ Y3.out
  have AQ := A2.out.step HS.out hr st
  have A3 := hQ_ (AQ.own HS.out hbn (Nat.le_refl w3.heap.size) (by simp))
  have X3 := hQ_ ((A2.out.blk HS.out X2.out (.inr rfl) st).below hbn)
  have f3_X0 := cC7 X3.out
  have f3_Y0 := cC7 Y3.out
  clear hr st hsm hrd hrg hbn AQ f2_X0
  have FE4 : fst_ [0,0] = 0 := rfl
  have HF4 := hQ_ (first_2b (0) (0) (w3.alloc (.cells #[.int .u32 yd,.string yn,.int .u32 yi,.int .u8 yk,.int .u32 yl,.int .u32 yz,.int .u32 yp] 150)) (w3.heap.size + 1) (by simp))
  rw [FE4] at HF4
  clear FE4
  go_upto_region 6 with (fail)
  go_cut [11] (fun p wx => p = .int .i64 (0) ∧ BL_ (w3.alloc (.cells #[.int .u32 yd,.string yn,.int .u32 yi,.int .u8 yk,.int .u32 yl,.int .u32 yz,.int .u32 yp] 150)) wx)
  case first =>
   go_wp2_with (first | (go_at_call 99; (with_reducible refine (HWT.out _ _).mono ?_); rintro e w9 ⟨rfl,rfl⟩) | (go_at_call 99; (with_reducible refine (HWF.out _ _).mono ?_); rintro e w9 ⟨rfl,rfl⟩) | (go_at_call 98; (with_reducible refine HF4.out.1.mono ?_); rintro e w9 ⟨rfl,rfl⟩))
   all_goals
    go_meet
    exact fB_
  case rest =>
   obtain ⟨rfl,hbc⟩ := hcut
   have A4 := hQ_ (A3.out.below HS.out hbc)
   have X4 := hQ_ (X3.out.below hbc)
   have Y4 := hQ_ (Y3.out.below hbc)
   skip
   have f4_X0 := cC7 X4.out
   have f4_Y0 := cC7 Y4.out
   clear hbc f3_X0 f3_Y0
   go_wp2_with fail
   refine (HWI.out _ (HX.out.at_ A4.out).1).mono ?_
   rw [HUN.out]
   rintro e w5 ⟨rfl,hbn⟩
   have A5 := hQ_ (A4.out.below HS.out hbn)
   have X5 := hQ_ (X4.out.below hbn)
   have Y5 := hQ_ (Y4.out.below hbn)
   have f5_X0 := cC7 X5.out
   have f5_Y0 := cC7 Y5.out
   clear hbn f4_X0 f4_Y0
   go_wp2_with fail
   refine (HRC.out _ _ _ _ A5.out.rep (Aft.sm0 C3.out.1) (lim_aft C3.out.1 HL.out (by omega) (by omega)) (by have := C3.out.1.rd; omega) (by have := C3.out.1.rg; omega)).mono ?_
   intro e w6 hh
   rcases Ans.split hh with ⟨s6,S6,D6,rfl,ho,hr,st,ha⟩ | ⟨s6,S6,D6,rfl,ho,hr,st,ha⟩
   ·have A6 := hQ_ (A5.out.step HS.out hr st)
    have C6 := hQ_ (Aft.thru C3.out (And.intro ha ho))
    clear hr st ha ho
    go_wp2_with fail
    go_ret
    exact Ans.ok A6.out ⟨C6.out.1.more (by omega) (by omega),C6.out.2⟩
   ·have A6 := hQ_ (A5.out.step HS.out hr st)
    have C6 := hQ_ (Aft.thru C3.out (And.intro ha ho))
    clear hr st ha ho
    go_wp2_with fail
    go_ret
    exact Ans.full A6.out ⟨C6.out.1.more (by omega) (by omega),C6.out.2⟩
theorem ren_do_t (hW0 : Wk Rep) (hRn : RangeN Rep) {w : World} {v : Value} {s : Vs} {S D : Nat → Prop} (old path : ByteArray) {xd xi xk xl xz xp er : Int} {xn : ByteArray} {yd yi yk yl yz yp er2 : Int} {yn : ByteArray} (hr : Rep w v s S D) (hl : Lim s) (h2 : s.rd.length ≤ 18000) (h3 : s.rg.length ≤ 900) (hx : Mxs w S) (hp : old.size ≤ 100000) (hp2 : path.size ≤ 100000) (hR : findM s.shown old = (⟨xd,xn,xi,⟨xk,xl,xz,xp⟩⟩,er)) (hR2 : findM s.shown path = (⟨yd,yn,yi,⟨yk,yl,yz,yp⟩⟩,er2)) (he : er = 0) (h0 : xi ≠ 0) (h1 : xi ≠ 1) (he2 : er2 = 0) (h3 : yi ≠ 1) (h4 : xi ≠ yi) (hk : ∀ p ∈ s.shown,(sp p.key).letter ≠ 0) (h5 : xk = 2) (hu : under (spl old).1 (spl path).1 = false) {ps : List Wrt} (hrx : clrB s.shown ⟨yd,yn,yi,⟨yk,yl,yz,yp⟩⟩ true = (0,ps)) :
 Calls Tryz.prog 85 #[v,.string old,.string path] w (Ans Rep v s 0 (ps ++ movPs ⟨xd,xn,xi,⟨xk,xl,xz,xp⟩⟩ ⟨yd,yn,yi,⟨yk,yl,yz,yp⟩⟩) 84 1 S D w) := by
 have A0 := hQ_ (At.start hr)
 have HX := hQ_ hx
 have HS := hQ_ hW0.stays
 have HL := hQ_ hl
 have HRO := hQ_ room_calls
 have C0 := hQ_ (aft0 s)
 have HWT := hQ_ when_t
 have HWF := hQ_ when_f
 have HFI := hQ_ (fun w (S D : Nat → Prop) (t : Vs) (hr : Rep w v t S D) (hsm : Sm t s) hl h2 hx => find_c hW0 old hR hr hsm hl h2 hp hx)
 unfold FndC at HFI
 have hsbx := find_bd s.shown old
 have hibx := find_ib s.shown old
 rw [hR] at hsbx hibx
 obtain ⟨x0,x1,x2,x3,x4⟩ := hsbx
 dsimp only at x0 x1 x2 x3 x4 HFI hibx
 have HFJ := hQ_ (fun w (S D : Nat → Prop) (t : Vs) (hr : Rep w v t S D) (hsm : Sm t s) hl h2 hx => find_c hW0 path hR2 hr hsm hl h2 hp2 hx)
 unfold FndC at HFJ
 have hsby := find_bd s.shown path
 have hiby := find_ib s.shown path
 rw [hR2] at hsby hiby
 obtain ⟨y0,y1,y2,y3,y4⟩ := hsby
 dsimp only at y0 y1 y2 y3 y4 HFJ hiby
 have HMV := hQ_ (fun w (S D : Nat → Prop) (t : Vs) (hr : Rep w v t S D) hl h2 h3 => move_calls hW0 xd xi xk xl xz xp xn yd yi yk yl yz yp yn (s := t) (w := w) (S := S) (D := D) (v := v) hr hl h2 h3 x0 x1 x2 x3 (by omega) y0 y1 y2 y3 (by omega))
 obtain ⟨mv,hmv⟩ : ∃ mv,movPs ⟨xd,xn,xi,⟨xk,xl,xz,xp⟩⟩ ⟨yd,yn,yi,⟨yk,yl,yz,yp⟩⟩ = mv := ⟨_,rfl⟩
 rw [hmv] at HMV ⊢
 subst he
 have d1 : (xi == 1) = false := by simpa using h1
 have d2 : (xi == 0) = false := by simpa using h0
 subst he2
 have d4 : (yi == 1) = false := by simpa using h3
 have d5 : (xi == yi) = false := by simpa using h4
 have HWI := hQ_ (fun w (hx : Mx w) => within_calls old path w hp hp2 hx)
 have HUN := hQ_ hu
 have d6 : (xk == 2) = true := by simpa using h5
 clear hu
 have HRC := hQ_ (fun w (S D : Nat → Prop) (t : Vs) (hr : Rep w v t S D) (hsm : Sm t s) (hl : Lim t) (h2 : t.rd.length ≤ 19900) (h3 : t.rg.length ≤ 985) => show Calls _ _ _ _ (Ans Rep v t (clrB s.shown ⟨yd,yn,yi,⟨yk,yl,yz,yp⟩⟩ true).1 (clrB s.shown ⟨yd,yn,yi,⟨yk,yl,yz,yp⟩⟩ true).2 1 1 S D w) by have h := DirsBd.replace_calls hW0 hRn yd yi yk yl yz yp xk yn hr hl h2 h3 y0 y1 y2 y3 y4 hiby (by rw [hsm.shown]; exact hk); rw [hsm.shown,decide_eq_true h5] at h; exact h)
 rw [hrx] at HRC
 dsimp only at HRC
 clear hr hl hp hp2 hR hW0 hR2 hx h0 h1 h3 h4 h5 hk hrx hmv
 go_enter Tryz.func85,Tryz.ntmps85
 go_wp2_with fail
 refine (HFI.out _ _ _ _ A0.out.rep (Aft.sm0 C0.out.1) (lim_aft C0.out.1 HL.out (by omega) (by omega)) (by have := C0.out.1.rd; omega) (HX.out.at_ A0.out).1).mono ?_
 rintro e w1 ⟨s1,S1,D1,rfl,hr,st,hsm,hrd,hrg⟩
 have C1 := hQ_ (aftF C0.out hsm hrd hrg)
 have X1 := hQ_ (Blk.new_ w1 #[.int .u32 xd,.string xn,.int .u32 xi,.int .u8 xk,.int .u32 xl,.int .u32 xz,.int .u32 xp] 150)
 have hbn := bX_ X1.out
 have AQ := A0.out.step HS.out hr st
 have A1 := hQ_ (AQ.own HS.out hbn (Nat.le_refl w1.heap.size) (by simp))
 have f1_X0 := cC7 X1.out
 clear hr st hsm hrd hrg hbn AQ
 have FE2 : fst_ [0,0,0] = 0 := rfl
 have HF2 := hQ_ (first_3b (0) (0) (0) (w1.alloc (.cells #[.int .u32 xd,.string xn,.int .u32 xi,.int .u8 xk,.int .u32 xl,.int .u32 xz,.int .u32 xp] 150)) (w1.heap.size + 1) (by simp))
 rw [FE2] at HF2
 clear FE2
 go_upto_region 2 with (fail)
 go_cut [9] (fun p wx => p = .int .i64 (0) ∧ BL_ (w1.alloc (.cells #[.int .u32 xd,.string xn,.int .u32 xi,.int .u8 xk,.int .u32 xl,.int .u32 xz,.int .u32 xp] 150)) wx)
 case first =>
  go_region_law (first | (go_simp; go_at_call 99; (with_reducible refine (HWT.out _ _).mono ?_); rintro e w9 ⟨rfl,rfl⟩) | (go_simp; go_at_call 99; (with_reducible refine (HWF.out _ _).mono ?_); rintro e w9 ⟨rfl,rfl⟩) | (go_simp; go_at_call 98; (first | (with_reducible refine HF2.out.1.mono ?_) | (with_reducible refine HF2.out.2.mono ?_)); rintro e w9 ⟨rfl,rfl⟩))
  all_goals
   go_wp2_with fail
   go_meet
   exact fB_
 case rest =>
  obtain ⟨rfl,hbc⟩ := hcut
  have A2 := hQ_ (A1.out.below HS.out hbc)
  have X2 := hQ_ (X1.out.below hbc)
  skip
  have f2_X0 := cC7 X2.out
  clear hbc f1_X0
  go_wp2_with fail
  refine (HFJ.out _ _ _ _ A2.out.rep (Aft.sm0 C1.out.1) (lim_aft C1.out.1 HL.out (by omega) (by omega)) (by have := C1.out.1.rd; omega) (HX.out.at_ A2.out).1).mono ?_
  rintro e w3 ⟨s3,S3,D3,rfl,hr,st,hsm,hrd,hrg⟩
  have C3 := hQ_ (aftF C1.out hsm hrd hrg)
  have Y3 := hQ_ (Blk.new_ w3 #[.int .u32 yd,.string yn,.int .u32 yi,.int .u8 yk,.int .u32 yl,.int .u32 yz,.int .u32 yp] 150)
  have hbn := bX_ Y3.out
  have AQ := A2.out.step HS.out hr st
  have A3 := hQ_ (AQ.own HS.out hbn (Nat.le_refl w3.heap.size) (by simp))
  have X3 := hQ_ ((A2.out.blk HS.out X2.out (.inr rfl) st).below hbn)
  have f3_X0 := cC7 X3.out
  have f3_Y0 := cC7 Y3.out
  clear hr st hsm hrd hrg hbn AQ f2_X0
  have FE4 : fst_ [0,0] = 0 := rfl
  have HF4 := hQ_ (first_2b (0) (0) (w3.alloc (.cells #[.int .u32 yd,.string yn,.int .u32 yi,.int .u8 yk,.int .u32 yl,.int .u32 yz,.int .u32 yp] 150)) (w3.heap.size + 1) (by simp))
  rw [FE4] at HF4
  clear FE4
  go_upto_region 6 with (fail)
  go_cut [11] (fun p wx => p = .int .i64 (0) ∧ BL_ (w3.alloc (.cells #[.int .u32 yd,.string yn,.int .u32 yi,.int .u8 yk,.int .u32 yl,.int .u32 yz,.int .u32 yp] 150)) wx)
  case first =>
   go_wp2_with (first | (go_at_call 99; (with_reducible refine (HWT.out _ _).mono ?_); rintro e w9 ⟨rfl,rfl⟩) | (go_at_call 99; (with_reducible refine (HWF.out _ _).mono ?_); rintro e w9 ⟨rfl,rfl⟩) | (go_at_call 98; (with_reducible refine HF4.out.1.mono ?_); rintro e w9 ⟨rfl,rfl⟩))
   all_goals
    go_meet
    exact fB_
  case rest =>
   obtain ⟨rfl,hbc⟩ := hcut
   have A4 := hQ_ (A3.out.below HS.out hbc)
   have X4 := hQ_ (X3.out.below hbc)
   have Y4 := hQ_ (Y3.out.below hbc)
   skip
   have f4_X0 := cC7 X4.out
   have f4_Y0 := cC7 Y4.out
   clear hbc f3_X0 f3_Y0
   go_wp2_with fail
   refine (HWI.out _ (HX.out.at_ A4.out).1).mono ?_
   rw [HUN.out]
   rintro e w5 ⟨rfl,hbn⟩
   have A5 := hQ_ (A4.out.below HS.out hbn)
   have X5 := hQ_ (X4.out.below hbn)
   have Y5 := hQ_ (Y4.out.below hbn)
   have f5_X0 := cC7 X5.out
   have f5_Y0 := cC7 Y5.out
   clear hbn f4_X0 f4_Y0
   go_wp2_with fail
   refine (HRC.out _ _ _ _ A5.out.rep (Aft.sm0 C3.out.1) (lim_aft C3.out.1 HL.out (by omega) (by omega)) (by have := C3.out.1.rd; omega) (by have := C3.out.1.rg; omega)).mono ?_
   intro e w6 hh
   rcases Ans.split hh with ⟨s6,S6,D6,rfl,ho,hr,st,ha⟩ | ⟨s6,S6,D6,rfl,ho,hr,st,ha⟩
   ·have C6 := hQ_ (Aft.thru C3.out (And.intro ha ho))
    clear ha ho
    have A6 := hQ_ (A5.out.step HS.out hr st)
    have X6 := hQ_ (A5.out.blk HS.out X5.out (.inl (.inr rfl)) st)
    have Y6 := hQ_ (A5.out.blk HS.out Y5.out (.inr rfl) st)
    have f6_X0 := cC7 X6.out
    have f6_Y0 := cC7 Y6.out
    clear st hr f5_X0 f5_Y0
    go_wp2_with fail
    refine (HMV.out _ _ _ _ A6.out.rep (lim_aft C6.out.1 HL.out (by omega) (by omega)) (by have := C6.out.1.rd; omega) (by have := C6.out.1.rg; omega)).mono ?_
    intro e w7 hh
    rcases Wrote.split hh with ⟨s7,S7,D7,rfl,ho,hr,st,ha⟩ | ⟨s7,S7,D7,rfl,ho,hr,st,ha⟩
    ·have A7 := hQ_ (A6.out.step HS.out hr st)
     obtain ⟨z1,z2⟩ := C6.out.1.app C6.out.2 ha
     have C7 := hQ_ (And.intro z1 (z2.trans ho))
     clear hr st ha ho z1 z2
     go_wp2_with (go_at_call 104; refine (HRO.out _ _).mono ?_; rintro e w9 ⟨rfl,rfl⟩)
     go_ret
     exact Ans.ok A7.out ⟨C7.out.1.more (by omega) (by omega),C7.out.2⟩
    ·have A7 := hQ_ (A6.out.step HS.out hr st)
     obtain ⟨z1,z2⟩ := C6.out.1.app C6.out.2 ha
     have C7 := hQ_ (And.intro z1 (z2.trans ho))
     clear hr st ha ho z1 z2
     go_wp2_with (go_at_call 104; refine (HRO.out _ _).mono ?_; rintro e w9 ⟨rfl,rfl⟩)
     go_ret
     exact Ans.full A7.out ⟨C7.out.1.more (by omega) (by omega),C7.out.2⟩
   ·have A6 := hQ_ (A5.out.step HS.out hr st)
    have C6 := hQ_ (Aft.thru C3.out (And.intro ha ho))
    clear hr st ha ho
    go_wp2_with fail
    go_ret
    exact Ans.full A6.out ⟨(Aft.stop (qs := mv) C6.out.1 C6.out.2).1.more (by omega) (by omega),(Aft.stop (qs := mv) C6.out.1 C6.out.2).2⟩
theorem ren_rep_f (hW0 : Wk Rep) (hRn : RangeN Rep) {w : World} {v : Value} {s : Vs} {S D : Nat → Prop} (old path : ByteArray) {xd xi xk xl xz xp er : Int} {xn : ByteArray} {yd yi yk yl yz yp er2 : Int} {yn : ByteArray} (hr : Rep w v s S D) (hl : Lim s) (h2 : s.rd.length ≤ 18000) (h3 : s.rg.length ≤ 900) (hx : Mxs w S) (hp : old.size ≤ 100000) (hp2 : path.size ≤ 100000) (hR : findM s.shown old = (⟨xd,xn,xi,⟨xk,xl,xz,xp⟩⟩,er)) (hR2 : findM s.shown path = (⟨yd,yn,yi,⟨yk,yl,yz,yp⟩⟩,er2)) (he : er = 0) (h0 : xi ≠ 0) (h1 : xi ≠ 1) (he2 : er2 = 0) (h3 : yi ≠ 1) (h4 : xi ≠ yi) (hk : ∀ p ∈ s.shown,(sp p.key).letter ≠ 0) (h5 : xk ≠ 2) {rx : Int} {ps : List Wrt} (hrx : clrB s.shown ⟨yd,yn,yi,⟨yk,yl,yz,yp⟩⟩ false = (rx,ps)) (hx0 : rx ≠ 0) :
 Calls Tryz.prog 85 #[v,.string old,.string path] w (Ans Rep v s rx [] 84 1 S D w) := by
 have A0 := hQ_ (At.start hr)
 have HX := hQ_ hx
 have HS := hQ_ hW0.stays
 have HL := hQ_ hl
 have C0 := hQ_ (aft0 s)
 have HWT := hQ_ when_t
 have HWF := hQ_ when_f
 have HFI := hQ_ (fun w (S D : Nat → Prop) (t : Vs) (hr : Rep w v t S D) (hsm : Sm t s) hl h2 hx => find_c hW0 old hR hr hsm hl h2 hp hx)
 unfold FndC at HFI
 have hsbx := find_bd s.shown old
 have hibx := find_ib s.shown old
 rw [hR] at hsbx hibx
 obtain ⟨x0,x1,x2,x3,x4⟩ := hsbx
 dsimp only at x0 x1 x2 x3 x4 HFI hibx
 have HFJ := hQ_ (fun w (S D : Nat → Prop) (t : Vs) (hr : Rep w v t S D) (hsm : Sm t s) hl h2 hx => find_c hW0 path hR2 hr hsm hl h2 hp2 hx)
 unfold FndC at HFJ
 have hsby := find_bd s.shown path
 have hiby := find_ib s.shown path
 rw [hR2] at hsby hiby
 obtain ⟨y0,y1,y2,y3,y4⟩ := hsby
 dsimp only at y0 y1 y2 y3 y4 HFJ hiby
 have hps : ps = [] := by
  have h := clrB_err (L := s.shown) (x := ⟨yd,yn,yi,⟨yk,yl,yz,yp⟩⟩) (d := false) (by rw [hrx]; exact hx0)
  rw [hrx] at h
  exact h
 subst hps
 subst he
 have d1 : (xi == 1) = false := by simpa using h1
 have d2 : (xi == 0) = false := by simpa using h0
 subst he2
 have d4 : (yi == 1) = false := by simpa using h3
 have d5 : (xi == yi) = false := by simpa using h4
 have d6 : (xk == 2) = false := by simpa using h5
 have HRC := hQ_ (fun w (S D : Nat → Prop) (t : Vs) (hr : Rep w v t S D) (hsm : Sm t s) (hl : Lim t) (h2 : t.rd.length ≤ 19900) (h3 : t.rg.length ≤ 985) => show Calls _ _ _ _ (Ans Rep v t (clrB s.shown ⟨yd,yn,yi,⟨yk,yl,yz,yp⟩⟩ false).1 (clrB s.shown ⟨yd,yn,yi,⟨yk,yl,yz,yp⟩⟩ false).2 1 1 S D w) by have h := DirsBd.replace_calls hW0 hRn yd yi yk yl yz yp xk yn hr hl h2 h3 y0 y1 y2 y3 y4 hiby (by rw [hsm.shown]; exact hk); rw [hsm.shown,decide_eq_false h5] at h; exact h)
 rw [hrx] at HRC
 dsimp only at HRC
 have d7 : (rx != 0) = true := by simpa using hx0
 clear hr hl hp hp2 hR hW0 hR2 hx h0 h1 h3 h4 h5 hk hrx hx0
 go_enter Tryz.func85,Tryz.ntmps85
 go_wp2_with fail
 refine (HFI.out _ _ _ _ A0.out.rep (Aft.sm0 C0.out.1) (lim_aft C0.out.1 HL.out (by omega) (by omega)) (by have := C0.out.1.rd; omega) (HX.out.at_ A0.out).1).mono ?_
 rintro e w1 ⟨s1,S1,D1,rfl,hr,st,hsm,hrd,hrg⟩
 have C1 := hQ_ (aftF C0.out hsm hrd hrg)
 have X1 := hQ_ (Blk.new_ w1 #[.int .u32 xd,.string xn,.int .u32 xi,.int .u8 xk,.int .u32 xl,.int .u32 xz,.int .u32 xp] 150)
 have hbn := bX_ X1.out
 have AQ := A0.out.step HS.out hr st
 have A1 := hQ_ (AQ.own HS.out hbn (Nat.le_refl w1.heap.size) (by simp))
 have f1_X0 := cC7 X1.out
 clear hr st hsm hrd hrg hbn AQ
 have FE2 : fst_ [0,0,0] = 0 := rfl
 have HF2 := hQ_ (first_3b (0) (0) (0) (w1.alloc (.cells #[.int .u32 xd,.string xn,.int .u32 xi,.int .u8 xk,.int .u32 xl,.int .u32 xz,.int .u32 xp] 150)) (w1.heap.size + 1) (by simp))
 rw [FE2] at HF2
 clear FE2
 go_upto_region 2 with (fail)
 go_cut [9] (fun p wx => p = .int .i64 (0) ∧ BL_ (w1.alloc (.cells #[.int .u32 xd,.string xn,.int .u32 xi,.int .u8 xk,.int .u32 xl,.int .u32 xz,.int .u32 xp] 150)) wx)
 case first =>
  go_region_law (first | (go_simp; go_at_call 99; (with_reducible refine (HWT.out _ _).mono ?_); rintro e w9 ⟨rfl,rfl⟩) | (go_simp; go_at_call 99; (with_reducible refine (HWF.out _ _).mono ?_); rintro e w9 ⟨rfl,rfl⟩) | (go_simp; go_at_call 98; (first | (with_reducible refine HF2.out.1.mono ?_) | (with_reducible refine HF2.out.2.mono ?_)); rintro e w9 ⟨rfl,rfl⟩))
  all_goals
   go_wp2_with fail
   go_meet
   exact fB_
 case rest =>
  obtain ⟨rfl,hbc⟩ := hcut
  have A2 := hQ_ (A1.out.below HS.out hbc)
  have X2 := hQ_ (X1.out.below hbc)
  skip
  have f2_X0 := cC7 X2.out
  clear hbc f1_X0
  go_wp2_with fail
  refine (HFJ.out _ _ _ _ A2.out.rep (Aft.sm0 C1.out.1) (lim_aft C1.out.1 HL.out (by omega) (by omega)) (by have := C1.out.1.rd; omega) (HX.out.at_ A2.out).1).mono ?_
  rintro e w3 ⟨s3,S3,D3,rfl,hr,st,hsm,hrd,hrg⟩
  have C3 := hQ_ (aftF C1.out hsm hrd hrg)
  have Y3 := hQ_ (Blk.new_ w3 #[.int .u32 yd,.string yn,.int .u32 yi,.int .u8 yk,.int .u32 yl,.int .u32 yz,.int .u32 yp] 150)
  have hbn := bX_ Y3.out
  have AQ := A2.out.step HS.out hr st
  have A3 := hQ_ (AQ.own HS.out hbn (Nat.le_refl w3.heap.size) (by simp))
  have X3 := hQ_ ((A2.out.blk HS.out X2.out (.inr rfl) st).below hbn)
  have f3_X0 := cC7 X3.out
  have f3_Y0 := cC7 Y3.out
  clear hr st hsm hrd hrg hbn AQ f2_X0
  have FE4 : fst_ [0,0] = 0 := rfl
  have HF4 := hQ_ (first_2b (0) (0) (w3.alloc (.cells #[.int .u32 yd,.string yn,.int .u32 yi,.int .u8 yk,.int .u32 yl,.int .u32 yz,.int .u32 yp] 150)) (w3.heap.size + 1) (by simp))
  rw [FE4] at HF4
  clear FE4
  go_upto_region 6 with (fail)
  go_cut [11] (fun p wx => p = .int .i64 (0) ∧ BL_ (w3.alloc (.cells #[.int .u32 yd,.string yn,.int .u32 yi,.int .u8 yk,.int .u32 yl,.int .u32 yz,.int .u32 yp] 150)) wx)
  case first =>
   go_wp2_with (first | (go_at_call 99; (with_reducible refine (HWT.out _ _).mono ?_); rintro e w9 ⟨rfl,rfl⟩) | (go_at_call 99; (with_reducible refine (HWF.out _ _).mono ?_); rintro e w9 ⟨rfl,rfl⟩) | (go_at_call 98; (with_reducible refine HF4.out.1.mono ?_); rintro e w9 ⟨rfl,rfl⟩))
   all_goals
    go_meet
    exact fB_
  case rest =>
   obtain ⟨rfl,hbc⟩ := hcut
   have A4 := hQ_ (A3.out.below HS.out hbc)
   have X4 := hQ_ (X3.out.below hbc)
   have Y4 := hQ_ (Y3.out.below hbc)
   skip
   have f4_X0 := cC7 X4.out
   have f4_Y0 := cC7 Y4.out
   clear hbc f3_X0 f3_Y0
   go_wp2_with fail
   refine (HRC.out _ _ _ _ A4.out.rep (Aft.sm0 C3.out.1) (lim_aft C3.out.1 HL.out (by omega) (by omega)) (by have := C3.out.1.rd; omega) (by have := C3.out.1.rg; omega)).mono ?_
   intro e w5 hh
   rcases Ans.split hh with ⟨s5,S5,D5,rfl,ho,hr,st,ha⟩ | ⟨s5,S5,D5,rfl,ho,hr,st,ha⟩
   ·have A5 := hQ_ (A4.out.step HS.out hr st)
    have C5 := hQ_ (Aft.thru C3.out (And.intro ha ho))
    clear hr st ha ho
    go_wp2_with fail
    go_ret
    exact Ans.ok A5.out ⟨C5.out.1.more (by omega) (by omega),C5.out.2⟩
   ·have A5 := hQ_ (A4.out.step HS.out hr st)
    have C5 := hQ_ (Aft.thru C3.out (And.intro ha ho))
    clear hr st ha ho
    go_wp2_with fail
    go_ret
    exact Ans.full A5.out ⟨C5.out.1.more (by omega) (by omega),C5.out.2⟩
theorem ren_do_f (hW0 : Wk Rep) (hRn : RangeN Rep) {w : World} {v : Value} {s : Vs} {S D : Nat → Prop} (old path : ByteArray) {xd xi xk xl xz xp er : Int} {xn : ByteArray} {yd yi yk yl yz yp er2 : Int} {yn : ByteArray} (hr : Rep w v s S D) (hl : Lim s) (h2 : s.rd.length ≤ 18000) (h3 : s.rg.length ≤ 900) (hx : Mxs w S) (hp : old.size ≤ 100000) (hp2 : path.size ≤ 100000) (hR : findM s.shown old = (⟨xd,xn,xi,⟨xk,xl,xz,xp⟩⟩,er)) (hR2 : findM s.shown path = (⟨yd,yn,yi,⟨yk,yl,yz,yp⟩⟩,er2)) (he : er = 0) (h0 : xi ≠ 0) (h1 : xi ≠ 1) (he2 : er2 = 0) (h3 : yi ≠ 1) (h4 : xi ≠ yi) (hk : ∀ p ∈ s.shown,(sp p.key).letter ≠ 0) (h5 : xk ≠ 2) {ps : List Wrt} (hrx : clrB s.shown ⟨yd,yn,yi,⟨yk,yl,yz,yp⟩⟩ false = (0,ps)) :
 Calls Tryz.prog 85 #[v,.string old,.string path] w (Ans Rep v s 0 (ps ++ movPs ⟨xd,xn,xi,⟨xk,xl,xz,xp⟩⟩ ⟨yd,yn,yi,⟨yk,yl,yz,yp⟩⟩) 84 1 S D w) := by
 have A0 := hQ_ (At.start hr)
 have HX := hQ_ hx
 have HS := hQ_ hW0.stays
 have HL := hQ_ hl
 have HRO := hQ_ room_calls
 have C0 := hQ_ (aft0 s)
 have HWT := hQ_ when_t
 have HWF := hQ_ when_f
 have HFI := hQ_ (fun w (S D : Nat → Prop) (t : Vs) (hr : Rep w v t S D) (hsm : Sm t s) hl h2 hx => find_c hW0 old hR hr hsm hl h2 hp hx)
 unfold FndC at HFI
 have hsbx := find_bd s.shown old
 have hibx := find_ib s.shown old
 rw [hR] at hsbx hibx
 obtain ⟨x0,x1,x2,x3,x4⟩ := hsbx
 dsimp only at x0 x1 x2 x3 x4 HFI hibx
 have HFJ := hQ_ (fun w (S D : Nat → Prop) (t : Vs) (hr : Rep w v t S D) (hsm : Sm t s) hl h2 hx => find_c hW0 path hR2 hr hsm hl h2 hp2 hx)
 unfold FndC at HFJ
 have hsby := find_bd s.shown path
 have hiby := find_ib s.shown path
 rw [hR2] at hsby hiby
 obtain ⟨y0,y1,y2,y3,y4⟩ := hsby
 dsimp only at y0 y1 y2 y3 y4 HFJ hiby
 have HMV := hQ_ (fun w (S D : Nat → Prop) (t : Vs) (hr : Rep w v t S D) hl h2 h3 => move_calls hW0 xd xi xk xl xz xp xn yd yi yk yl yz yp yn (s := t) (w := w) (S := S) (D := D) (v := v) hr hl h2 h3 x0 x1 x2 x3 (by omega) y0 y1 y2 y3 (by omega))
 obtain ⟨mv,hmv⟩ : ∃ mv,movPs ⟨xd,xn,xi,⟨xk,xl,xz,xp⟩⟩ ⟨yd,yn,yi,⟨yk,yl,yz,yp⟩⟩ = mv := ⟨_,rfl⟩
 rw [hmv] at HMV ⊢
 subst he
 have d1 : (xi == 1) = false := by simpa using h1
 have d2 : (xi == 0) = false := by simpa using h0
 subst he2
 have d4 : (yi == 1) = false := by simpa using h3
 have d5 : (xi == yi) = false := by simpa using h4
 have d6 : (xk == 2) = false := by simpa using h5
 have HRC := hQ_ (fun w (S D : Nat → Prop) (t : Vs) (hr : Rep w v t S D) (hsm : Sm t s) (hl : Lim t) (h2 : t.rd.length ≤ 19900) (h3 : t.rg.length ≤ 985) => show Calls _ _ _ _ (Ans Rep v t (clrB s.shown ⟨yd,yn,yi,⟨yk,yl,yz,yp⟩⟩ false).1 (clrB s.shown ⟨yd,yn,yi,⟨yk,yl,yz,yp⟩⟩ false).2 1 1 S D w) by have h := DirsBd.replace_calls hW0 hRn yd yi yk yl yz yp xk yn hr hl h2 h3 y0 y1 y2 y3 y4 hiby (by rw [hsm.shown]; exact hk); rw [hsm.shown,decide_eq_false h5] at h; exact h)
 rw [hrx] at HRC
 dsimp only at HRC
 clear hr hl hp hp2 hR hW0 hR2 hx h0 h1 h3 h4 h5 hk hrx hmv
 go_enter Tryz.func85,Tryz.ntmps85
 go_wp2_with fail
 refine (HFI.out _ _ _ _ A0.out.rep (Aft.sm0 C0.out.1) (lim_aft C0.out.1 HL.out (by omega) (by omega)) (by have := C0.out.1.rd; omega) (HX.out.at_ A0.out).1).mono ?_
 rintro e w1 ⟨s1,S1,D1,rfl,hr,st,hsm,hrd,hrg⟩
 have C1 := hQ_ (aftF C0.out hsm hrd hrg)
 have X1 := hQ_ (Blk.new_ w1 #[.int .u32 xd,.string xn,.int .u32 xi,.int .u8 xk,.int .u32 xl,.int .u32 xz,.int .u32 xp] 150)
 have hbn := bX_ X1.out
 have AQ := A0.out.step HS.out hr st
 have A1 := hQ_ (AQ.own HS.out hbn (Nat.le_refl w1.heap.size) (by simp))
 have f1_X0 := cC7 X1.out
 clear hr st hsm hrd hrg hbn AQ
 have FE2 : fst_ [0,0,0] = 0 := rfl
 have HF2 := hQ_ (first_3b (0) (0) (0) (w1.alloc (.cells #[.int .u32 xd,.string xn,.int .u32 xi,.int .u8 xk,.int .u32 xl,.int .u32 xz,.int .u32 xp] 150)) (w1.heap.size + 1) (by simp))
 rw [FE2] at HF2
 clear FE2
 go_upto_region 2 with (fail)
 go_cut [9] (fun p wx => p = .int .i64 (0) ∧ BL_ (w1.alloc (.cells #[.int .u32 xd,.string xn,.int .u32 xi,.int .u8 xk,.int .u32 xl,.int .u32 xz,.int .u32 xp] 150)) wx)
 case first =>
  go_region_law (first | (go_simp; go_at_call 99; (with_reducible refine (HWT.out _ _).mono ?_); rintro e w9 ⟨rfl,rfl⟩) | (go_simp; go_at_call 99; (with_reducible refine (HWF.out _ _).mono ?_); rintro e w9 ⟨rfl,rfl⟩) | (go_simp; go_at_call 98; (first | (with_reducible refine HF2.out.1.mono ?_) | (with_reducible refine HF2.out.2.mono ?_)); rintro e w9 ⟨rfl,rfl⟩))
  all_goals
   go_wp2_with fail
   go_meet
   exact fB_
 case rest =>
  obtain ⟨rfl,hbc⟩ := hcut
  have A2 := hQ_ (A1.out.below HS.out hbc)
  have X2 := hQ_ (X1.out.below hbc)
  skip
  have f2_X0 := cC7 X2.out
  clear hbc f1_X0
  go_wp2_with fail
  refine (HFJ.out _ _ _ _ A2.out.rep (Aft.sm0 C1.out.1) (lim_aft C1.out.1 HL.out (by omega) (by omega)) (by have := C1.out.1.rd; omega) (HX.out.at_ A2.out).1).mono ?_
  rintro e w3 ⟨s3,S3,D3,rfl,hr,st,hsm,hrd,hrg⟩
  have C3 := hQ_ (aftF C1.out hsm hrd hrg)
  have Y3 := hQ_ (Blk.new_ w3 #[.int .u32 yd,.string yn,.int .u32 yi,.int .u8 yk,.int .u32 yl,.int .u32 yz,.int .u32 yp] 150)
  have hbn := bX_ Y3.out
  have AQ := A2.out.step HS.out hr st
  have A3 := hQ_ (AQ.own HS.out hbn (Nat.le_refl w3.heap.size) (by simp))
  have X3 := hQ_ ((A2.out.blk HS.out X2.out (.inr rfl) st).below hbn)
  have f3_X0 := cC7 X3.out
  have f3_Y0 := cC7 Y3.out
  clear hr st hsm hrd hrg hbn AQ f2_X0
  have FE4 : fst_ [0,0] = 0 := rfl
  have HF4 := hQ_ (first_2b (0) (0) (w3.alloc (.cells #[.int .u32 yd,.string yn,.int .u32 yi,.int .u8 yk,.int .u32 yl,.int .u32 yz,.int .u32 yp] 150)) (w3.heap.size + 1) (by simp))
  rw [FE4] at HF4
  clear FE4
  go_upto_region 6 with (fail)
  go_cut [11] (fun p wx => p = .int .i64 (0) ∧ BL_ (w3.alloc (.cells #[.int .u32 yd,.string yn,.int .u32 yi,.int .u8 yk,.int .u32 yl,.int .u32 yz,.int .u32 yp] 150)) wx)
  case first =>
   go_wp2_with (first | (go_at_call 99; (with_reducible refine (HWT.out _ _).mono ?_); rintro e w9 ⟨rfl,rfl⟩) | (go_at_call 99; (with_reducible refine (HWF.out _ _).mono ?_); rintro e w9 ⟨rfl,rfl⟩) | (go_at_call 98; (with_reducible refine HF4.out.1.mono ?_); rintro e w9 ⟨rfl,rfl⟩))
   all_goals
    go_meet
    exact fB_
  case rest =>
   obtain ⟨rfl,hbc⟩ := hcut
   have A4 := hQ_ (A3.out.below HS.out hbc)
   have X4 := hQ_ (X3.out.below hbc)
   have Y4 := hQ_ (Y3.out.below hbc)
   skip
   have f4_X0 := cC7 X4.out
   have f4_Y0 := cC7 Y4.out
   clear hbc f3_X0 f3_Y0
   go_wp2_with fail
   refine (HRC.out _ _ _ _ A4.out.rep (Aft.sm0 C3.out.1) (lim_aft C3.out.1 HL.out (by omega) (by omega)) (by have := C3.out.1.rd; omega) (by have := C3.out.1.rg; omega)).mono ?_
   intro e w5 hh
   rcases Ans.split hh with ⟨s5,S5,D5,rfl,ho,hr,st,ha⟩ | ⟨s5,S5,D5,rfl,ho,hr,st,ha⟩
   ·have C5 := hQ_ (Aft.thru C3.out (And.intro ha ho))
    clear ha ho
    have A5 := hQ_ (A4.out.step HS.out hr st)
    have X5 := hQ_ (A4.out.blk HS.out X4.out (.inl (.inr rfl)) st)
    have Y5 := hQ_ (A4.out.blk HS.out Y4.out (.inr rfl) st)
    have f5_X0 := cC7 X5.out
    have f5_Y0 := cC7 Y5.out
    clear st hr f4_X0 f4_Y0
    go_wp2_with fail
    refine (HMV.out _ _ _ _ A5.out.rep (lim_aft C5.out.1 HL.out (by omega) (by omega)) (by have := C5.out.1.rd; omega) (by have := C5.out.1.rg; omega)).mono ?_
    intro e w6 hh
    rcases Wrote.split hh with ⟨s6,S6,D6,rfl,ho,hr,st,ha⟩ | ⟨s6,S6,D6,rfl,ho,hr,st,ha⟩
    ·have A6 := hQ_ (A5.out.step HS.out hr st)
     obtain ⟨z1,z2⟩ := C5.out.1.app C5.out.2 ha
     have C6 := hQ_ (And.intro z1 (z2.trans ho))
     clear hr st ha ho z1 z2
     go_wp2_with (go_at_call 104; refine (HRO.out _ _).mono ?_; rintro e w9 ⟨rfl,rfl⟩)
     go_ret
     exact Ans.ok A6.out ⟨C6.out.1.more (by omega) (by omega),C6.out.2⟩
    ·have A6 := hQ_ (A5.out.step HS.out hr st)
     obtain ⟨z1,z2⟩ := C5.out.1.app C5.out.2 ha
     have C6 := hQ_ (And.intro z1 (z2.trans ho))
     clear hr st ha ho z1 z2
     go_wp2_with (go_at_call 104; refine (HRO.out _ _).mono ?_; rintro e w9 ⟨rfl,rfl⟩)
     go_ret
     exact Ans.full A6.out ⟨C6.out.1.more (by omega) (by omega),C6.out.2⟩
   ·have A5 := hQ_ (A4.out.step HS.out hr st)
    have C5 := hQ_ (Aft.thru C3.out (And.intro ha ho))
    clear hr st ha ho
    go_wp2_with fail
    go_ret
    exact Ans.full A5.out ⟨(Aft.stop (qs := mv) C5.out.1 C5.out.2).1.more (by omega) (by omega),(Aft.stop (qs := mv) C5.out.1 C5.out.2).2⟩
theorem ren_calls (hW0 : Wk Rep) (hRn : RangeN Rep) {w : World} {v : Value} {s : Vs} {S D : Nat → Prop} (old path : ByteArray) (hr : Rep w v s S D) (hl : Lim s) (h2 : s.rd.length ≤ 18000) (h3 : s.rg.length ≤ 900) (hx : Mxs w S) (hp : old.size ≤ 100000) (hp2 : path.size ≤ 100000) (hk : ∀ p ∈ s.shown,(sp p.key).letter ≠ 0) :
 Calls Tryz.prog 85 #[v,.string old,.string path] w (Ans Rep v s (renB s.shown old path).1 (renB s.shown old path).2 84 1 S D w) := by
 obtain ⟨⟨⟨xd,xn,xi,⟨xk,xl,xz,xp⟩⟩,er⟩,hR⟩ : ∃ R,findM s.shown old = R := ⟨_,rfl⟩
 obtain ⟨⟨⟨yd,yn,yi,⟨yk,yl,yz,yp⟩⟩,er2⟩,hR2⟩ : ∃ R,findM s.shown path = R := ⟨_,rfl⟩
 unfold renB
 have h := hR
 have h' := hR2
 rw [hR,hR2]
 dsimp only
 by_cases he : er = 0
 ·rw [if_neg (fun h => h he)]
  by_cases h1 : xi = 1
  ·rw [if_pos h1]
   exact ren_root hW0 hRn old path hr hl h2 h3 hx hp hp2 h he h1
  ·rw [if_neg h1]
   by_cases h0 : xi = 0
   ·rw [if_pos h0]
    exact ren_none hW0 hRn old path hr hl h2 h3 hx hp hp2 h he h0
   ·rw [if_neg h0]
    by_cases he2 : er2 = 0
    ·rw [if_neg (fun h => h he2)]
     by_cases h5 : yi = 1
     ·rw [if_pos h5]
      exact ren_root2 hW0 hRn old path hr hl h2 h3 hx hp hp2 h h' he h0 h1 he2 h5
     ·rw [if_neg h5]
      by_cases h4 : xi = yi
      ·rw [if_pos h4]
       exact ren_same hW0 hRn old path hr hl h2 h3 hx hp hp2 h h' he h0 h1 he2 h5 h4
      ·rw [if_neg h4]
       by_cases h6 : xk = 2
       ·by_cases hu : under (spl old).1 (spl path).1 = true
        ·rw [if_pos ⟨h6,hu⟩]
         exact ren_into hW0 hRn old path hr hl h2 h3 hx hp hp2 h h' he h0 h1 he2 h5 h4 h6 hu
        ·rw [if_neg (fun h => hu h.2),decide_eq_true h6]
         obtain ⟨⟨rx,ps⟩,hrx⟩ : ∃ r,clrB s.shown ⟨yd,yn,yi,⟨yk,yl,yz,yp⟩⟩ true = r := ⟨_,rfl⟩
         have hrx' := hrx
         rw [hrx]
         dsimp only
         by_cases hx0 : rx = 0
         ·rw [if_neg (fun h => h hx0)]
          subst hx0
          exact ren_do_t hW0 hRn old path hr hl h2 h3 hx hp hp2 h h' he h0 h1 he2 h5 h4 hk h6 (Bool.eq_false_iff.2 hu) hrx'
         ·rw [if_pos hx0]
          exact ren_rep_t hW0 hRn old path hr hl h2 h3 hx hp hp2 h h' he h0 h1 he2 h5 h4 hk h6 (Bool.eq_false_iff.2 hu) hrx' hx0
       ·rw [if_neg (fun h => h6 h.1),decide_eq_false h6]
        obtain ⟨⟨rx,ps⟩,hrx⟩ : ∃ r,clrB s.shown ⟨yd,yn,yi,⟨yk,yl,yz,yp⟩⟩ false = r := ⟨_,rfl⟩
        have hrx' := hrx
        rw [hrx]
        dsimp only
        by_cases hx0 : rx = 0
        ·rw [if_neg (fun h => h hx0)]
         subst hx0
         exact ren_do_f hW0 hRn old path hr hl h2 h3 hx hp hp2 h h' he h0 h1 he2 h5 h4 hk h6 hrx'
        ·rw [if_pos hx0]
         exact ren_rep_f hW0 hRn old path hr hl h2 h3 hx hp hp2 h h' he h0 h1 he2 h5 h4 hk h6 hrx' hx0
    ·rw [if_pos he2]
     by_cases h5 : yi = 1
     ·exact ren_err2_1 hW0 hRn old path hr hl h2 h3 hx hp hp2 h h' he h0 h1 he2 h5
     ·exact ren_err2_0 hW0 hRn old path hr hl h2 h3 hx hp hp2 h h' he h0 h1 he2 h5
 ·rw [if_pos he]
  exact ren_err hW0 hRn old path hr hl h2 h3 hx hp hp2 h he
end Go.Proofs.YtogdjbhjgbnicaaGreatDoor.DirsBh