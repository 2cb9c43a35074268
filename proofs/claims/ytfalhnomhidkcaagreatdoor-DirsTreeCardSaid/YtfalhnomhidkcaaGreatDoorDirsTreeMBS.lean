import Derived.Deep.LoopGhost
import Derived.Laws.ResultCell
import Derived.Test.YtfalhnomhidkcaaGreatDoorSq
import Derived.Test.YtfalhnomhidkcaaGreatDoorDirsTreeMBR
import Derived.Test.YtfalhnomhidkcaaGreatDoorHo
set_option maxHeartbeats 16000000
set_option linter.unusedVariables false
set_option linter.unusedSimpArgs false
set_option maxRecDepth 100000
namespace Go.Proofs.YtfalhnomhidkcaaGreatDoor.TreeQ
open Go.RowKit
open Byte KeysM TreeM Own Lst TreeR TreeL TreeB TreeD
def Vn (w : World) (b : Nat) (A : Option Addr) (t : Tt) : Prop := Blk w b #[.pointer A] 100 ∧ Nd w t A
theorem get_ino_l {l r : Tt} {q : Pr} {k : ByteArray} (h : Rise (Tt.nd l q r).ino) (hk : kl k q.key = true) : getL k (Tt.nd l q r).ino = getL k l.ino := Tt.get_l h hk
theorem get_ino_r {l r : Tt} {q : Pr} {k : ByteArray} (h : Rise (Tt.nd l q r).ino) (hk : kl q.key k = true) : getL k (Tt.nd l q r).ino = getL k r.ino := Tt.get_r h hk
theorem get_ino_m {l r : Tt} {q : Pr} {k : ByteArray} (h : Rise (Tt.nd l q r).ino) (hk : k = q.key) : getL k (Tt.nd l q r).ino = some q := by
 subst hk
 exact Tt.get_m h
theorem neq_false {a b : ByteArray} (h : a ≠ b) : (a.toList == b.toList) = false := by rw [eq_list,decide_eq_false h]
theorem neq_true {a b : ByteArray} (h : a = b) : (a.toList == b.toList) = true := by rw [eq_list,decide_eq_true h]
theorem get_calls (b : Nat) (A : Option Addr) (t : Tt) (k : ByteArray) (w : World) (h : Vn w b A t) (hr : Rise t.ino) (G : Option Pr) (hG : getL k t.ino = G) :
 Calls Tryz.prog 57 #[.pointer (some ⟨b,0,none⟩),.string k] w fun e w' => e = .returned (GotV G) ∧ w = w' := by
 have HN := hQ_ h.2
 have HT := hQ_ h.1
 have HR := hQ_ hr
 have HG := hQ_ hG
 clear h hr hG
 go_enter Tryz.func57,Tryz.ntmps57
 go_wp2_with (go_at_call 102; refine (top_calls b A _ HT.out).mono ?_; rintro e w1 ⟨rfl,rfl⟩)
 go_loopg [6] t.sz (fun m n wr => ∃ (t' : Tt) (A' : Option Addr),n = .pointer A' ∧ Hid (Nd w t' A') ∧ Hid (Rise t'.ino) ∧ Hid (getL k t'.ino = G) ∧ Hid (t'.sz ≤ m) ∧ wr = w)
 case atStart => exact ⟨t,A,rfl,HN,HR,HG,hQ_ (Nat.le_refl _),rfl⟩
 case round =>
  obtain ⟨t',A',rfl,HN',HR',HG',HK,rfl⟩ := hrel
  cases t' with
  | no =>
    obtain rfl : A' = none := HN'.out
    have hG : none = G := HG'.out
    subst hG
    go_wp2_with fail
    go_ret2
    exact ⟨rfl,rfl⟩
  | nd l q r =>
    obtain ⟨d,C,D,rfl,hk,hl,hr⟩ := HN'.out
    have c0 := cC2 hk
    have HKK := hQ_ hk
    have HL := hQ_ hl
    have HRR := hQ_ hr
    clear hk hl hr
    by_cases he : k = q.key
    ·have z1 : (q.key.toList == k.toList) = true := neq_true he.symm
     have hG : some q = G := (get_ino_m HR'.out he).symm.trans HG'.out
     subst hG
     clear he
     go_wp2_with fail
     go_ret2
     exact ⟨rfl,rfl⟩
    ·have z1 : (q.key.toList == k.toList) = false := neq_false fun h => he h.symm
     cases h1 : kl k q.key with
     | true =>
       have HG2 := hQ_ ((get_ino_l HR'.out h1).symm.trans HG'.out)
       have HR2 := hQ_ (Tt.rise_mid HR'.out).1
       have H1 := hQ_ h1
       clear he h1
       go_wp2_with (go_at_call 108; refine (towards_l d q C D _ _ k _ HKK.out H1.out).mono ?_; rintro e w1 ⟨rfl,rfl⟩)
       go_roundg l.sz
       case rel => exact ⟨l,_,rfl,HL,HR2,HG2,hQ_ (Nat.le_refl _),rfl⟩
       case measure => have := HK.out; simp only [Tt.sz] at this; omega
     | false =>
       have h2 : kl q.key k = true := by
        cases h3 : kl q.key k with
        | true => rfl
        | false => exact absurd (kl_tri h1 h3) he
       have HG2 := hQ_ ((get_ino_r HR'.out h2).symm.trans HG'.out)
       have HR2 := hQ_ (Tt.rise_mid HR'.out).2.1
       have H1 := hQ_ h1
       clear he h1 h2
       go_wp2_with (go_at_call 108; refine (towards_r d q C D _ _ k _ HKK.out H1.out).mono ?_; rintro e w1 ⟨rfl,rfl⟩)
       go_roundg r.sz
       case rel => exact ⟨r,_,rfl,HRR,HR2,HG2,hQ_ (Nat.le_refl _),rfl⟩
       case measure => have := HK.out; simp only [Tt.sz] at this; omega
end Go.Proofs.YtfalhnomhidkcaaGreatDoor.TreeQ
namespace Go.Proofs.YtfalhnomhidkcaaGreatDoor.TreeJ
open Go.RowKit
open Byte KeysM TreeM Own Lst TreeR TreeL TreeB TreeD
def Gat (L : List Pr) (base : Nat) (w : World) (e : Ending) (w' : World) : Prop := ∃ v,e = .returned v ∧ So prE 46 w' base v L.length L ∧ Below base w w' ∧ Kept w w' ∧ base ≤ w'.heap.size
theorem kept_refl (w : World) : Kept w w := fun _ _ _ _ _ h => h
theorem kept_trans {w w' w'' : World} (h : Kept w w') (h' : Kept w' w'') : Kept w w'' := fun b cs U fr hU hb => h' b cs U fr hU (h b cs U fr hU hb)
theorem kept_alloc {w w' : World} (h : Kept w w') (x : Obj) : Kept w (w'.alloc x) := kept_trans h (Kept.of_below (bW_))
theorem own_of {w : World} {base n : Nat} {v : Value} {L M : List Pr} (h : So prE 46 w base v n L) (e : L = M) : So prE 46 w base v M.length M := by
 subst e
 rw [h.1]
 exact h
theorem range_ino (a b : ByteArray) (l r : Tt) (q : Pr) : rangeL a b (Tt.nd l q r).ino = rangeL a b l.ino ++ (if !kl q.key a && kl q.key b then [q] else []) ++ rangeL a b r.ino := Tt.range_mid a b l.ino r.ino q
theorem range_sz (a b : ByteArray) (t : Tt) : (rangeL a b t.ino).length ≤ t.sz := by
 rw [← Tt.sz_ino]
 exact List.length_filter_le _ _
theorem gather_1 (a b : ByteArray) (l r : Tt) (q : Pr) (ihl : ∀ (A : Option Addr) (w : World) (base : Nat) (v : Value) (M : List Pr),Nd w l A → So prE 46 w base v M.length M → base ≤ w.heap.size → M.length + l.sz ≤ 90000 → Calls Tryz.prog 110 #[.pointer A,v,.string a,.string b] w (Gat (M ++ rangeL a b l.ino) base w)) (ihr : ∀ (A : Option Addr) (w : World) (base : Nat) (v : Value) (M : List Pr),Nd w r A → So prE 46 w base v M.length M → base ≤ w.heap.size → M.length + r.sz ≤ 90000 → Calls Tryz.prog 110 #[.pointer A,v,.string a,.string b] w (Gat (M ++ rangeL a b r.ino) base w)) (A : Option Addr) (w : World) (base : Nat) (v : Value) (M : List Pr) (h : Nd w (Tt.nd l q r) A) (ho : So prE 46 w base v M.length M) (hb : base ≤ w.heap.size) (hn : M.length + (Tt.nd l q r).sz ≤ 90000) (h1 : kl a q.key = true) (h3 : kl q.key b = true) (he : M ++ rangeL a b (Tt.nd l q r).ino = M ++ rangeL a b l.ino ++ [q] ++ rangeL a b r.ino) :
 Calls Tryz.prog 110 #[.pointer A,v,.string a,.string b] w (Gat (M ++ rangeL a b (Tt.nd l q r).ino) base w) := by
 have f1 : Op.bytesLess a.toList q.key.toList = true := h1
 have f3 : Op.bytesLess q.key.toList b.toList = true := h3
 clear h1 h3
 obtain ⟨g,C,D,rfl,hk,hl,hr⟩ := h
 have HK := hQ_ hk
 have HL := hQ_ hl
 have HR := hQ_ hr
 have HO := hQ_ ho
 have HIL := hQ_ ihl
 have HIR := hQ_ ihr
 have HE := hQ_ he
 have HN := hQ_ hn
 have sl := range_sz a b l
 obtain ⟨Rl,hRl⟩ : ∃ R,rangeL a b l.ino = R := ⟨_,rfl⟩
 obtain ⟨Rr,hRr⟩ : ∃ R,rangeL a b r.ino = R := ⟨_,rfl⟩
 obtain ⟨Z,hZ⟩ : ∃ Z,M ++ rangeL a b (Tt.nd l q r).ino = Z := ⟨_,rfl⟩
 rw [hZ] at HE ⊢
 rw [hRl] at HIL sl
 try rw [hRl] at HE
 rw [hRr] at HIR
 try rw [hRr] at HE
 simp only [Tt.sz] at hn
 clear hk hl hr ho ihl ihr he hRl hRr hZ
 have HB := hQ_ (Below.refl base w)
 have HKP := hQ_ (kept_refl w)
 have HBS := hQ_ hb
 have c0 := cZ0 HK.out
 have c3 := cZ3 HK.out
 have c4 := cZ4 HK.out
 go_enter Tryz.func110,Tryz.ntmps110
 go_wp2_with fail
 refine (HIL.out _ _ base _ M HL.out HO.out HBS.out (by have := HN.out; simp only [Tt.sz] at this; (try simp only [List.length_append,List.length_cons,List.length_nil]); omega)).mono ?_
 rintro e w3 ⟨v3,rfl,ho3,hb3,hk3,hs3⟩
 clear c0 c3 c4
 have HO2 := hQ_ ho3
 have HB2 := hQ_ (HB.out.trans hb3)
 have HKP2 := hQ_ (kept_trans HKP.out hk3)
 have HBS2 := hQ_ hs3
 have HK2 : Hid (Blk w3 g (ndC q C D (Tt.nd l q r).sz (Tt.nd l q r).ht) 172) := hQ_ (hk3 _ _ _ _ (.inr rfl) HK.out)
 have HL2 := hQ_ (HL.out.keep hk3)
 have HR2 := hQ_ (HR.out.keep hk3)
 clear ho3 hb3 hk3 hs3 HO HB HKP HBS HK HL HR
 have HO := HO2
 have HB := HB2
 have HKP := HKP2
 have HBS := HBS2
 have HK := HK2
 have HL := HL2
 have HR := HR2
 clear HO2 HB2 HKP2 HBS2 HK2 HL2 HR2
 have c0 := cZ0 HK.out
 have c3 := cZ3 HK.out
 have c4 := cZ4 HK.out
 have c1 := cZ1 HK.out
 have c2 := cZ2 HK.out
 go_wp2_with ((with_reducible refine pick (some 43) ?_); refine wpList_append_lst prE 46 rfl _ _ _ rfl Tryz.underlying42 info_pair rfl base v3 _ (M ++ Rl) rfl (HO.out.below (bW_)) w3.heap.size 0 1 1 [q] rfl (Sl.new_ prE w3 _ q _ rfl) _ rfl ((M ++ Rl) ++ [q]) rfl (by unfold maxLen; have := HN.out; simp only [Tt.sz] at this; (try simp only [List.length_append,List.length_cons,List.length_nil]); omega) (by have := HN.out; simp only [Tt.sz] at this; (try simp only [List.length_append,List.length_cons,List.length_nil]); omega) (by have := HBS.out; simp; omega) ?_; intro v4 w4 ho4 hg4 _ _; clear c0 c1 c2 c3 c4; have hs4 : base ≤ w4.heap.size := Nat.le_trans HBS.out (Nat.le_trans (by simp) hg4.size); have hk4 : Kept w3 w4 := kept_trans (kept_alloc (kept_refl _) _) (Kept.of_grown (HO.out.below (bW_)) hg4 (by decide)); have hb4 : Below base w3 w4 := ((Below.refl _ _).alloc HBS.out _).grown hg4 (by have := HBS.out; simp; omega) (fun x hx => (HO.out.lt hx).1); have ho4b := own_of ho4 rfl; clear ho4; have ho4 := ho4b; clear ho4b; have HO2 := hQ_ ho4; have HB2 := hQ_ (HB.out.trans hb4); have HKP2 := hQ_ (kept_trans HKP.out hk4); have HBS2 := hQ_ hs4; have HK2 : Hid (Blk w4 g (ndC q C D (Tt.nd l q r).sz (Tt.nd l q r).ht) 172) := hQ_ (hk4 _ _ _ _ (.inr rfl) HK.out); have HL2 := hQ_ (HL.out.keep hk4); have HR2 := hQ_ (HR.out.keep hk4); clear ho4 hb4 hk4 hs4 HO HB HKP HBS HK HL HR; have HO := HO2; have HB := HB2; have HKP := HKP2; have HBS := HBS2; have HK := HK2; have HL := HL2; have HR := HR2; clear HO2 HB2 HKP2 HBS2 HK2 HL2 HR2; have c0 : w4.cell? ⟨g,0,none⟩ = some (.string q.key) := HK.out.cell 0; have c3 : w4.cell? ⟨g,3,none⟩ = some (.pointer C) := HK.out.cell 3; have c4 : w4.cell? ⟨g,4,none⟩ = some (.pointer D) := HK.out.cell 4)
 go_wp2_with fail
 refine (HIR.out _ _ base _ ((M ++ Rl) ++ [q]) HR.out HO.out HBS.out (by have := HN.out; simp only [Tt.sz] at this; (try simp only [List.length_append,List.length_cons,List.length_nil]); omega)).mono ?_
 rintro e w5 ⟨v5,rfl,ho5,hb5,hk5,hs5⟩
 clear c0 c3 c4
 have HO2 := hQ_ ho5
 have HB2 := hQ_ (HB.out.trans hb5)
 have HKP2 := hQ_ (kept_trans HKP.out hk5)
 have HBS2 := hQ_ hs5
 have HK2 : Hid (Blk w5 g (ndC q C D (Tt.nd l q r).sz (Tt.nd l q r).ht) 172) := hQ_ (hk5 _ _ _ _ (.inr rfl) HK.out)
 have HL2 := hQ_ (HL.out.keep hk5)
 have HR2 := hQ_ (HR.out.keep hk5)
 clear ho5 hb5 hk5 hs5 HO HB HKP HBS HK HL HR
 have HO := HO2
 have HB := HB2
 have HKP := HKP2
 have HBS := HBS2
 have HK := HK2
 have HL := HL2
 have HR := HR2
 clear HO2 HB2 HKP2 HBS2 HK2 HL2 HR2
 have c0 := cZ0 HK.out
 have c3 := cZ3 HK.out
 have c4 := cZ4 HK.out
 go_wp2_with fail
 go_ret
 exact ⟨_,rfl,by rw [HE.out]; exact own_of HO.out (by simp),HB.out,HKP.out,HBS.out⟩
theorem gather_2 (a b : ByteArray) (l r : Tt) (q : Pr) (ihl : ∀ (A : Option Addr) (w : World) (base : Nat) (v : Value) (M : List Pr),Nd w l A → So prE 46 w base v M.length M → base ≤ w.heap.size → M.length + l.sz ≤ 90000 → Calls Tryz.prog 110 #[.pointer A,v,.string a,.string b] w (Gat (M ++ rangeL a b l.ino) base w)) (ihr : ∀ (A : Option Addr) (w : World) (base : Nat) (v : Value) (M : List Pr),Nd w r A → So prE 46 w base v M.length M → base ≤ w.heap.size → M.length + r.sz ≤ 90000 → Calls Tryz.prog 110 #[.pointer A,v,.string a,.string b] w (Gat (M ++ rangeL a b r.ino) base w)) (A : Option Addr) (w : World) (base : Nat) (v : Value) (M : List Pr) (h : Nd w (Tt.nd l q r) A) (ho : So prE 46 w base v M.length M) (hb : base ≤ w.heap.size) (hn : M.length + (Tt.nd l q r).sz ≤ 90000) (h1 : kl a q.key = true) (h3 : kl q.key b = false) (he : M ++ rangeL a b (Tt.nd l q r).ino = M ++ rangeL a b l.ino) :
 Calls Tryz.prog 110 #[.pointer A,v,.string a,.string b] w (Gat (M ++ rangeL a b (Tt.nd l q r).ino) base w) := by
 have f1 : Op.bytesLess a.toList q.key.toList = true := h1
 have f3 : Op.bytesLess q.key.toList b.toList = false := h3
 clear h1 h3
 obtain ⟨g,C,D,rfl,hk,hl,hr⟩ := h
 have HK := hQ_ hk
 have HL := hQ_ hl
 have HR := hQ_ hr
 have HO := hQ_ ho
 have HIL := hQ_ ihl
 have HE := hQ_ he
 have HN := hQ_ hn
 have sl := range_sz a b l
 obtain ⟨Rl,hRl⟩ : ∃ R,rangeL a b l.ino = R := ⟨_,rfl⟩
 obtain ⟨Rr,hRr⟩ : ∃ R,rangeL a b r.ino = R := ⟨_,rfl⟩
 obtain ⟨Z,hZ⟩ : ∃ Z,M ++ rangeL a b (Tt.nd l q r).ino = Z := ⟨_,rfl⟩
 rw [hZ] at HE ⊢
 rw [hRl] at HIL sl
 try rw [hRl] at HE
 try rw [hRr] at HE
 simp only [Tt.sz] at hn
 clear hk hl hr ho ihl ihr he hRl hRr hZ
 have HB := hQ_ (Below.refl base w)
 have HKP := hQ_ (kept_refl w)
 have HBS := hQ_ hb
 have c0 := cZ0 HK.out
 have c3 := cZ3 HK.out
 have c4 := cZ4 HK.out
 go_enter Tryz.func110,Tryz.ntmps110
 go_wp2_with fail
 refine (HIL.out _ _ base _ M HL.out HO.out HBS.out (by have := HN.out; simp only [Tt.sz] at this; (try simp only [List.length_append,List.length_cons,List.length_nil]); omega)).mono ?_
 rintro e w3 ⟨v3,rfl,ho3,hb3,hk3,hs3⟩
 clear c0 c3 c4
 have HO2 := hQ_ ho3
 have HB2 := hQ_ (HB.out.trans hb3)
 have HKP2 := hQ_ (kept_trans HKP.out hk3)
 have HBS2 := hQ_ hs3
 have HK2 : Hid (Blk w3 g (ndC q C D (Tt.nd l q r).sz (Tt.nd l q r).ht) 172) := hQ_ (hk3 _ _ _ _ (.inr rfl) HK.out)
 have HL2 := hQ_ (HL.out.keep hk3)
 have HR2 := hQ_ (HR.out.keep hk3)
 clear ho3 hb3 hk3 hs3 HO HB HKP HBS HK HL HR
 have HO := HO2
 have HB := HB2
 have HKP := HKP2
 have HBS := HBS2
 have HK := HK2
 have HL := HL2
 have HR := HR2
 clear HO2 HB2 HKP2 HBS2 HK2 HL2 HR2
 have c0 := cZ0 HK.out
 have c3 := cZ3 HK.out
 have c4 := cZ4 HK.out
 go_wp2_with fail
 go_ret
 exact ⟨_,rfl,by rw [HE.out]; exact own_of HO.out (by simp),HB.out,HKP.out,HBS.out⟩
theorem gather_3 (a b : ByteArray) (l r : Tt) (q : Pr) (ihl : ∀ (A : Option Addr) (w : World) (base : Nat) (v : Value) (M : List Pr),Nd w l A → So prE 46 w base v M.length M → base ≤ w.heap.size → M.length + l.sz ≤ 90000 → Calls Tryz.prog 110 #[.pointer A,v,.string a,.string b] w (Gat (M ++ rangeL a b l.ino) base w)) (ihr : ∀ (A : Option Addr) (w : World) (base : Nat) (v : Value) (M : List Pr),Nd w r A → So prE 46 w base v M.length M → base ≤ w.heap.size → M.length + r.sz ≤ 90000 → Calls Tryz.prog 110 #[.pointer A,v,.string a,.string b] w (Gat (M ++ rangeL a b r.ino) base w)) (A : Option Addr) (w : World) (base : Nat) (v : Value) (M : List Pr) (h : Nd w (Tt.nd l q r) A) (ho : So prE 46 w base v M.length M) (hb : base ≤ w.heap.size) (hn : M.length + (Tt.nd l q r).sz ≤ 90000) (h1 : kl a q.key = false) (h2 : decide (a = q.key) = true) (h3 : kl q.key b = true) (he : M ++ rangeL a b (Tt.nd l q r).ino = M ++ [q] ++ rangeL a b r.ino) :
 Calls Tryz.prog 110 #[.pointer A,v,.string a,.string b] w (Gat (M ++ rangeL a b (Tt.nd l q r).ino) base w) := by
 have f1 : Op.bytesLess a.toList q.key.toList = false := h1
 have f2 : (a.toList == q.key.toList) = true := by rw [eq_list]; exact h2
 have f3 : Op.bytesLess q.key.toList b.toList = true := h3
 clear h1 h2 h3
 obtain ⟨g,C,D,rfl,hk,hl,hr⟩ := h
 have HK := hQ_ hk
 have HL := hQ_ hl
 have HR := hQ_ hr
 have HO := hQ_ ho
 have HIL := hQ_ ihl
 have HIR := hQ_ ihr
 have HE := hQ_ he
 have HN := hQ_ hn
 have sl := range_sz a b l
 obtain ⟨Rl,hRl⟩ : ∃ R,rangeL a b l.ino = R := ⟨_,rfl⟩
 obtain ⟨Rr,hRr⟩ : ∃ R,rangeL a b r.ino = R := ⟨_,rfl⟩
 obtain ⟨Z,hZ⟩ : ∃ Z,M ++ rangeL a b (Tt.nd l q r).ino = Z := ⟨_,rfl⟩
 rw [hZ] at HE ⊢
 rw [hRl] at HIL sl
 try rw [hRl] at HE
 rw [hRr] at HIR
 try rw [hRr] at HE
 simp only [Tt.sz] at hn
 clear hk hl hr ho ihl ihr he hRl hRr hZ
 have HB := hQ_ (Below.refl base w)
 have HKP := hQ_ (kept_refl w)
 have HBS := hQ_ hb
 have c0 := cZ0 HK.out
 have c3 := cZ3 HK.out
 have c4 := cZ4 HK.out
 go_enter Tryz.func110,Tryz.ntmps110
 have c1 := cZ1 HK.out
 have c2 := cZ2 HK.out
 go_wp2_with ((with_reducible refine pick (some 43) ?_); refine wpList_append_lst prE 46 rfl _ _ _ rfl Tryz.underlying42 info_pair rfl base v _ M rfl (HO.out.below (bW_)) w.heap.size 0 1 1 [q] rfl (Sl.new_ prE w _ q _ rfl) _ rfl (M ++ [q]) rfl (by unfold maxLen; have := HN.out; simp only [Tt.sz] at this; (try simp only [List.length_append,List.length_cons,List.length_nil]); omega) (by have := HN.out; simp only [Tt.sz] at this; (try simp only [List.length_append,List.length_cons,List.length_nil]); omega) (by have := HBS.out; simp; omega) ?_; intro v4 w4 ho4 hg4 _ _; clear c0 c1 c2 c3 c4; have hs4 : base ≤ w4.heap.size := Nat.le_trans HBS.out (Nat.le_trans (by simp) hg4.size); have hk4 : Kept w w4 := kept_trans (kept_alloc (kept_refl _) _) (Kept.of_grown (HO.out.below (bW_)) hg4 (by decide)); have hb4 : Below base w w4 := ((Below.refl _ _).alloc HBS.out _).grown hg4 (by have := HBS.out; simp; omega) (fun x hx => (HO.out.lt hx).1); have ho4b := own_of ho4 rfl; clear ho4; have ho4 := ho4b; clear ho4b; have HO2 := hQ_ ho4; have HB2 := hQ_ (HB.out.trans hb4); have HKP2 := hQ_ (kept_trans HKP.out hk4); have HBS2 := hQ_ hs4; have HK2 : Hid (Blk w4 g (ndC q C D (Tt.nd l q r).sz (Tt.nd l q r).ht) 172) := hQ_ (hk4 _ _ _ _ (.inr rfl) HK.out); have HL2 := hQ_ (HL.out.keep hk4); have HR2 := hQ_ (HR.out.keep hk4); clear ho4 hb4 hk4 hs4 HO HB HKP HBS HK HL HR; have HO := HO2; have HB := HB2; have HKP := HKP2; have HBS := HBS2; have HK := HK2; have HL := HL2; have HR := HR2; clear HO2 HB2 HKP2 HBS2 HK2 HL2 HR2; have c0 : w4.cell? ⟨g,0,none⟩ = some (.string q.key) := HK.out.cell 0; have c3 : w4.cell? ⟨g,3,none⟩ = some (.pointer C) := HK.out.cell 3; have c4 : w4.cell? ⟨g,4,none⟩ = some (.pointer D) := HK.out.cell 4)
 go_wp2_with fail
 refine (HIR.out _ _ base _ (M ++ [q]) HR.out HO.out HBS.out (by have := HN.out; simp only [Tt.sz] at this; (try simp only [List.length_append,List.length_cons,List.length_nil]); omega)).mono ?_
 rintro e w5 ⟨v5,rfl,ho5,hb5,hk5,hs5⟩
 clear c0 c3 c4
 have HO2 := hQ_ ho5
 have HB2 := hQ_ (HB.out.trans hb5)
 have HKP2 := hQ_ (kept_trans HKP.out hk5)
 have HBS2 := hQ_ hs5
 have HK2 : Hid (Blk w5 g (ndC q C D (Tt.nd l q r).sz (Tt.nd l q r).ht) 172) := hQ_ (hk5 _ _ _ _ (.inr rfl) HK.out)
 have HL2 := hQ_ (HL.out.keep hk5)
 have HR2 := hQ_ (HR.out.keep hk5)
 clear ho5 hb5 hk5 hs5 HO HB HKP HBS HK HL HR
 have HO := HO2
 have HB := HB2
 have HKP := HKP2
 have HBS := HBS2
 have HK := HK2
 have HL := HL2
 have HR := HR2
 clear HO2 HB2 HKP2 HBS2 HK2 HL2 HR2
 have c0 := cZ0 HK.out
 have c3 := cZ3 HK.out
 have c4 := cZ4 HK.out
 go_wp2_with fail
 go_ret
 exact ⟨_,rfl,by rw [HE.out]; exact own_of HO.out (by simp),HB.out,HKP.out,HBS.out⟩
theorem gather_4 (a b : ByteArray) (l r : Tt) (q : Pr) (ihl : ∀ (A : Option Addr) (w : World) (base : Nat) (v : Value) (M : List Pr),Nd w l A → So prE 46 w base v M.length M → base ≤ w.heap.size → M.length + l.sz ≤ 90000 → Calls Tryz.prog 110 #[.pointer A,v,.string a,.string b] w (Gat (M ++ rangeL a b l.ino) base w)) (ihr : ∀ (A : Option Addr) (w : World) (base : Nat) (v : Value) (M : List Pr),Nd w r A → So prE 46 w base v M.length M → base ≤ w.heap.size → M.length + r.sz ≤ 90000 → Calls Tryz.prog 110 #[.pointer A,v,.string a,.string b] w (Gat (M ++ rangeL a b r.ino) base w)) (A : Option Addr) (w : World) (base : Nat) (v : Value) (M : List Pr) (h : Nd w (Tt.nd l q r) A) (ho : So prE 46 w base v M.length M) (hb : base ≤ w.heap.size) (hn : M.length + (Tt.nd l q r).sz ≤ 90000) (h1 : kl a q.key = false) (h2 : decide (a = q.key) = true) (h3 : kl q.key b = false) (he : M ++ rangeL a b (Tt.nd l q r).ino = M) :
 Calls Tryz.prog 110 #[.pointer A,v,.string a,.string b] w (Gat (M ++ rangeL a b (Tt.nd l q r).ino) base w) := by
 have f1 : Op.bytesLess a.toList q.key.toList = false := h1
 have f2 : (a.toList == q.key.toList) = true := by rw [eq_list]; exact h2
 have f3 : Op.bytesLess q.key.toList b.toList = false := h3
 clear h1 h2 h3
 obtain ⟨g,C,D,rfl,hk,hl,hr⟩ := h
 have HK := hQ_ hk
 have HO := hQ_ ho
 have HIL := hQ_ ihl
 have HE := hQ_ he
 have sl := range_sz a b l
 obtain ⟨Rl,hRl⟩ : ∃ R,rangeL a b l.ino = R := ⟨_,rfl⟩
 obtain ⟨Rr,hRr⟩ : ∃ R,rangeL a b r.ino = R := ⟨_,rfl⟩
 obtain ⟨Z,hZ⟩ : ∃ Z,M ++ rangeL a b (Tt.nd l q r).ino = Z := ⟨_,rfl⟩
 rw [hZ] at HE ⊢
 rw [hRl] at HIL sl
 try rw [hRl] at HE
 try rw [hRr] at HE
 simp only [Tt.sz] at hn
 clear hk hl hr ho ihl ihr he hRl hRr hZ
 have HB := hQ_ (Below.refl base w)
 have HKP := hQ_ (kept_refl w)
 have HBS := hQ_ hb
 have c0 := cZ0 HK.out
 have c3 := cZ3 HK.out
 have c4 := cZ4 HK.out
 go_enter Tryz.func110,Tryz.ntmps110
 go_wp2_with fail
 go_ret
 exact ⟨_,rfl,by rw [HE.out]; exact own_of HO.out (by simp),HB.out,HKP.out,HBS.out⟩
theorem gather_5 (a b : ByteArray) (l r : Tt) (q : Pr) (ihl : ∀ (A : Option Addr) (w : World) (base : Nat) (v : Value) (M : List Pr),Nd w l A → So prE 46 w base v M.length M → base ≤ w.heap.size → M.length + l.sz ≤ 90000 → Calls Tryz.prog 110 #[.pointer A,v,.string a,.string b] w (Gat (M ++ rangeL a b l.ino) base w)) (ihr : ∀ (A : Option Addr) (w : World) (base : Nat) (v : Value) (M : List Pr),Nd w r A → So prE 46 w base v M.length M → base ≤ w.heap.size → M.length + r.sz ≤ 90000 → Calls Tryz.prog 110 #[.pointer A,v,.string a,.string b] w (Gat (M ++ rangeL a b r.ino) base w)) (A : Option Addr) (w : World) (base : Nat) (v : Value) (M : List Pr) (h : Nd w (Tt.nd l q r) A) (ho : So prE 46 w base v M.length M) (hb : base ≤ w.heap.size) (hn : M.length + (Tt.nd l q r).sz ≤ 90000) (h1 : kl a q.key = false) (h2 : decide (a = q.key) = false) (h3 : kl q.key b = true) (he : M ++ rangeL a b (Tt.nd l q r).ino = M ++ rangeL a b r.ino) :
 Calls Tryz.prog 110 #[.pointer A,v,.string a,.string b] w (Gat (M ++ rangeL a b (Tt.nd l q r).ino) base w) := by
 have f1 : Op.bytesLess a.toList q.key.toList = false := h1
 have f2 : (a.toList == q.key.toList) = false := by rw [eq_list]; exact h2
 have f3 : Op.bytesLess q.key.toList b.toList = true := h3
 clear h1 h2 h3
 obtain ⟨g,C,D,rfl,hk,hl,hr⟩ := h
 have HK := hQ_ hk
 have HL := hQ_ hl
 have HR := hQ_ hr
 have HO := hQ_ ho
 have HIL := hQ_ ihl
 have HIR := hQ_ ihr
 have HE := hQ_ he
 have HN := hQ_ hn
 have sl := range_sz a b l
 obtain ⟨Rl,hRl⟩ : ∃ R,rangeL a b l.ino = R := ⟨_,rfl⟩
 obtain ⟨Rr,hRr⟩ : ∃ R,rangeL a b r.ino = R := ⟨_,rfl⟩
 obtain ⟨Z,hZ⟩ : ∃ Z,M ++ rangeL a b (Tt.nd l q r).ino = Z := ⟨_,rfl⟩
 rw [hZ] at HE ⊢
 rw [hRl] at HIL sl
 try rw [hRl] at HE
 rw [hRr] at HIR
 try rw [hRr] at HE
 simp only [Tt.sz] at hn
 clear hk hl hr ho ihl ihr he hRl hRr hZ
 have HB := hQ_ (Below.refl base w)
 have HKP := hQ_ (kept_refl w)
 have HBS := hQ_ hb
 have c0 := cZ0 HK.out
 have c3 := cZ3 HK.out
 have c4 := cZ4 HK.out
 go_enter Tryz.func110,Tryz.ntmps110
 go_wp2_with fail
 refine (HIR.out _ _ base _ M HR.out HO.out HBS.out (by have := HN.out; simp only [Tt.sz] at this; (try simp only [List.length_append,List.length_cons,List.length_nil]); omega)).mono ?_
 rintro e w5 ⟨v5,rfl,ho5,hb5,hk5,hs5⟩
 clear c0 c3 c4
 have HO2 := hQ_ ho5
 have HB2 := hQ_ (HB.out.trans hb5)
 have HKP2 := hQ_ (kept_trans HKP.out hk5)
 have HBS2 := hQ_ hs5
 have HK2 : Hid (Blk w5 g (ndC q C D (Tt.nd l q r).sz (Tt.nd l q r).ht) 172) := hQ_ (hk5 _ _ _ _ (.inr rfl) HK.out)
 have HL2 := hQ_ (HL.out.keep hk5)
 have HR2 := hQ_ (HR.out.keep hk5)
 clear ho5 hb5 hk5 hs5 HO HB HKP HBS HK HL HR
 have HO := HO2
 have HB := HB2
 have HKP := HKP2
 have HBS := HBS2
 have HK := HK2
 have HL := HL2
 have HR := HR2
 clear HO2 HB2 HKP2 HBS2 HK2 HL2 HR2
 have c0 := cZ0 HK.out
 have c3 := cZ3 HK.out
 have c4 := cZ4 HK.out
 go_wp2_with fail
 go_ret
 exact ⟨_,rfl,by rw [HE.out]; exact own_of HO.out (by simp),HB.out,HKP.out,HBS.out⟩
theorem gather_6 (a b : ByteArray) (l r : Tt) (q : Pr) (ihl : ∀ (A : Option Addr) (w : World) (base : Nat) (v : Value) (M : List Pr),Nd w l A → So prE 46 w base v M.length M → base ≤ w.heap.size → M.length + l.sz ≤ 90000 → Calls Tryz.prog 110 #[.pointer A,v,.string a,.string b] w (Gat (M ++ rangeL a b l.ino) base w)) (ihr : ∀ (A : Option Addr) (w : World) (base : Nat) (v : Value) (M : List Pr),Nd w r A → So prE 46 w base v M.length M → base ≤ w.heap.size → M.length + r.sz ≤ 90000 → Calls Tryz.prog 110 #[.pointer A,v,.string a,.string b] w (Gat (M ++ rangeL a b r.ino) base w)) (A : Option Addr) (w : World) (base : Nat) (v : Value) (M : List Pr) (h : Nd w (Tt.nd l q r) A) (ho : So prE 46 w base v M.length M) (hb : base ≤ w.heap.size) (hn : M.length + (Tt.nd l q r).sz ≤ 90000) (h1 : kl a q.key = false) (h2 : decide (a = q.key) = false) (h3 : kl q.key b = false) (he : M ++ rangeL a b (Tt.nd l q r).ino = M) :
 Calls Tryz.prog 110 #[.pointer A,v,.string a,.string b] w (Gat (M ++ rangeL a b (Tt.nd l q r).ino) base w) := by
 have f1 : Op.bytesLess a.toList q.key.toList = false := h1
 have f2 : (a.toList == q.key.toList) = false := by rw [eq_list]; exact h2
 have f3 : Op.bytesLess q.key.toList b.toList = false := h3
 clear h1 h2 h3
 obtain ⟨g,C,D,rfl,hk,hl,hr⟩ := h
 have HK := hQ_ hk
 have HO := hQ_ ho
 have HIL := hQ_ ihl
 have HE := hQ_ he
 have sl := range_sz a b l
 obtain ⟨Rl,hRl⟩ : ∃ R,rangeL a b l.ino = R := ⟨_,rfl⟩
 obtain ⟨Rr,hRr⟩ : ∃ R,rangeL a b r.ino = R := ⟨_,rfl⟩
 obtain ⟨Z,hZ⟩ : ∃ Z,M ++ rangeL a b (Tt.nd l q r).ino = Z := ⟨_,rfl⟩
 rw [hZ] at HE ⊢
 rw [hRl] at HIL sl
 try rw [hRl] at HE
 try rw [hRr] at HE
 simp only [Tt.sz] at hn
 clear hk hl hr ho ihl ihr he hRl hRr hZ
 have HB := hQ_ (Below.refl base w)
 have HKP := hQ_ (kept_refl w)
 have HBS := hQ_ hb
 have c0 := cZ0 HK.out
 have c3 := cZ3 HK.out
 have c4 := cZ4 HK.out
 go_enter Tryz.func110,Tryz.ntmps110
 go_wp2_with fail
 go_ret
 exact ⟨_,rfl,by rw [HE.out]; exact own_of HO.out (by simp),HB.out,HKP.out,HBS.out⟩
theorem gather_calls (a b : ByteArray) (t : Tt) : ∀ (A : Option Addr) (w : World) (base : Nat) (v : Value) (M : List Pr),Rise t.ino → Nd w t A → So prE 46 w base v M.length M → base ≤ w.heap.size → M.length + t.sz ≤ 90000 → Calls Tryz.prog 110 #[.pointer A,v,.string a,.string b] w (Gat (M ++ rangeL a b t.ino) base w) := by
 induction t with
 | no =>
   intro A w base v M _ h ho hb hn
   obtain rfl : A = none := h
   have HO := hQ_ ho
   have HBS := hQ_ hb
   clear ho hb
   rw [show M ++ rangeL a b Tt.no.ino = M from List.append_nil M]
   go_enter Tryz.func110,Tryz.ntmps110
   go_wp2_with fail
   go_ret
   exact ⟨_,rfl,HO.out,Below.refl _ _,kept_refl _,HBS.out⟩
 | nd l q r ihl ihr =>
   intro A w base v M hri h ho hb hn
   have hri2 : Rise (l.ino ++ q :: r.ino) := hri
   have hm := Tt.rise_mid hri2
   have jl := fun A w base v M => ihl A w base v M hm.1
   have jr := fun A w base v M => ihr A w base v M hm.2.1
   have e := range_ino a b l r q
   cases h1 : kl a q.key with
   | true =>
     have h4 : kl q.key a = false := kl_asym h1
     cases h3 : kl q.key b with
     | true => exact gather_1 a b l r q jl jr A w base v M h ho hb hn h1 h3 (by rw [e,h4,h3]; simp)
     | false => exact gather_2 a b l r q jl jr A w base v M h ho hb hn h1 h3 (by rw [e,h4,h3,Tt.range_high hri2 h3]; simp)
   | false =>
     have e1 := Tt.range_low (b := b) hri2 h1
     by_cases h2 : a = q.key
     ·have h4 : kl q.key a = false := by rw [h2]; exact kl_irr _
      cases h3 : kl q.key b with
      | true => exact gather_3 a b l r q jl jr A w base v M h ho hb hn h1 (decide_eq_true h2) h3 (by rw [e,e1,h4,h3]; simp)
      | false => exact gather_4 a b l r q jl jr A w base v M h ho hb hn h1 (decide_eq_true h2) h3 (by rw [e,e1,h4,h3,Tt.range_high hri2 h3]; simp)
     ·have h4 : kl q.key a = true := by
       cases h5 : kl q.key a with
       | true => rfl
       | false => exact absurd (kl_tri h1 h5) h2
      cases h3 : kl q.key b with
      | true => exact gather_5 a b l r q jl jr A w base v M h ho hb hn h1 (decide_eq_false h2) h3 (by rw [e,e1,h4]; simp)
      | false => exact gather_6 a b l r q jl jr A w base v M h ho hb hn h1 (decide_eq_false h2) h3 (by rw [e,e1,h4,Tt.range_high hri2 h3]; simp)
end Go.Proofs.YtfalhnomhidkcaaGreatDoor.TreeJ
namespace Go.Proofs.YtfalhnomhidkcaaGreatDoor.TreeE
open Go.RowKit
open Byte KeysM TreeM Own Lst TreeR TreeL TreeB TreeD Ho
theorem pair_blk {w v : World} {p : Pr} {b : Nat} (h : Blk w b #[.string p.key,.string p.value,.bool p.gone] 46) (hb : Below w.heap.size w v) : v.cell? ⟨b,0,none⟩ = some (.string p.key) ∧ v.cell? ⟨b,1,none⟩ = some (.string p.value) ∧ v.cell? ⟨b,2,none⟩ = some (.bool p.gone) :=
 ⟨(h.below hb).cell 0,(h.below hb).cell 1,(h.below hb).cell 2⟩
theorem node_blk {w v : World} {p : Pr} {b n h : Nat} {B C : Option Addr} (hk : Blk w b (ndC p B C n h) 172) (hb : Below w.heap.size w v) : v.cell? ⟨b,0,none⟩ = some (.string p.key) ∧ v.cell? ⟨b,1,none⟩ = some (.string p.value) ∧ v.cell? ⟨b,2,none⟩ = some (.bool p.gone) ∧ v.cell? ⟨b,3,none⟩ = some (.pointer B) ∧ v.cell? ⟨b,4,none⟩ = some (.pointer C) :=
 ⟨(hk.below hb).cell 0,(hk.below hb).cell 1,(hk.below hb).cell 2,(hk.below hb).cell 3,(hk.below hb).cell 4⟩
theorem leanR_1 (ot s inner : Tt) (q p : Pr) (A B : Option Addr) (w : World) (hl : Nd w (Tt.nd ot q inner) A) (hr : Nd w s B) (hn : (Tt.nd ot q inner).sz + s.sz ≤ 90000) (hh : inner.ht ≤ ot.ht) :
 Calls Tryz.prog 154 #[.pointer A,.agg #[.string p.key,.string p.value,.bool p.gone],.pointer B] w (NdR (Tt.nd ot q (Tt.nd inner p s)) w) := by
 obtain ⟨b,C,D,rfl,hk,hot,hin⟩ := hl
 have HP := hQ_ (Blk.new_ w #[.string p.key,.string p.value,.bool p.gone] 46)
 have hb1 := bX_ HP.out
 have HK := hQ_ (hk.below hb1)
 have HOT := hQ_ (hot.below hb1)
 have HIN := hQ_ (hin.below hb1)
 have HS := hQ_ (hr.below hb1)
 have HB1 := hQ_ hb1
 have hlt : b < w.heap.size := hk.lt
 have c4 := cZ4 HK.out
 obtain ⟨h1,e1⟩ : ∃ n,ot.ht = n := ⟨_,rfl⟩
 obtain ⟨h2,e2⟩ : ∃ n,inner.ht = n := ⟨_,rfl⟩
 rw [e1,e2] at hh
 have HN := hQ_ hn
 have E1 := hQ_ e1
 have E2 := hQ_ e2
 clear hk hot hin hr hb1 e1 e2 hn
 go_enter Tryz.func154,Tryz.ntmps154
 go_wp2_with fail
 obtain ⟨W,hW⟩ : ∃ W,(w.alloc (.cells #[.string p.key,.string p.value,.bool p.gone] 46)) = W := ⟨_,rfl⟩
 rw [hW] at HP HK HOT HIN HS HB1 c4 ⊢
 clear hW c4
 have RD1 : Hid (∀ v,Below W.heap.size W v → Below W.heap.size W v ∧ v.cell? ⟨b,0,none⟩ = some (.string q.key) ∧ v.cell? ⟨b,1,none⟩ = some (.string q.value) ∧ v.cell? ⟨b,2,none⟩ = some (.bool q.gone) ∧ v.cell? ⟨b,3,none⟩ = some (.pointer C) ∧ v.cell? ⟨b,4,none⟩ = some (.pointer D)) := hQ_ fun v hv => ⟨hv,node_blk HK.out hv⟩
 have d1 : decide ((h2 : Int) ≤ (h1 : Int)) = true := decide_eq_true (by omega)
 have d2 : decide (h2 ≤ h1) = true := decide_eq_true (by omega)
 refine wp_region_held_drew (S := fun v => Below W.heap.size W v ∧ v.cell? ⟨b,0,none⟩ = some (.string q.key) ∧ v.cell? ⟨b,1,none⟩ = some (.string q.value) ∧ v.cell? ⟨b,2,none⟩ = some (.bool q.gone) ∧ v.cell? ⟨b,3,none⟩ = some (.pointer C) ∧ v.cell? ⟨b,4,none⟩ = some (.pointer D)) (by kernel_rfl) (RD1.out _ (Below.drew (Below.refl _ _))) (fun hHeld => ?_)
 refine hw_ 0 (some 12) ?_
 refine hw_ 2 (some 14) ?_
 refine hw_ 3 (some 15) ?_
 refine hw_ 4 (some 16) ?_
 refine hw_ 5 (some 17) ?_
 refine ho_step 1 (some 13) rfl rfl (by kernel_rfl) (by kernel_rfl) (fun K hK => ?_)
 go_simp
 (go_at_call 153; refine (height_calls inner D _ (HIN.out.below (And.left hHeld)) h2 E2.out).mono ?_; rintro e w3 ⟨rfl,rfl⟩)
 try go_wp2_with fail
 refine hK.out _ _ (hHeld) (fun hHeld2 => ?_)
 clear hHeld
 have hHeld := hHeld2
 clear hHeld2
 clear hK K
 try simp only [pZ_]
 refine ho_step 6 (some 18) rfl rfl (by kernel_rfl) (by kernel_rfl) (fun K hK => ?_)
 go_simp
 (go_at_call 153; refine (height_calls ot C _ (HOT.out.below (And.left hHeld)) h1 E1.out).mono ?_; rintro e w3 ⟨rfl,rfl⟩)
 try go_wp2_with fail
 refine hK.out _ _ (hHeld) (fun hHeld2 => ?_)
 clear hHeld
 have hHeld := hHeld2
 clear hHeld2
 clear hK K
 try simp only [pZ_]
 refine hw_ 7 (some 19) ?_
 refine wpAnyH_done (by kernel_rfl) ?_ _
 have hv1 := hHeld.1
 clear hHeld RD1
 go_wp2_with fail
 obtain ⟨W2,hW2⟩ : ∃ W2,W.drew = W2 := ⟨_,rfl⟩
 rw [hW2] at hv1 ⊢
 clear hW2 d1 d2
 have RD2 : Hid (∀ v,Below W.heap.size W v → Below W.heap.size W v ∧ v.cell? ⟨b,0,none⟩ = some (.string q.key) ∧ v.cell? ⟨b,1,none⟩ = some (.string q.value) ∧ v.cell? ⟨b,2,none⟩ = some (.bool q.gone) ∧ v.cell? ⟨b,3,none⟩ = some (.pointer C) ∧ v.cell? ⟨b,4,none⟩ = some (.pointer D) ∧ v.cell? ⟨w.heap.size,0,none⟩ = some (.string p.key) ∧ v.cell? ⟨w.heap.size,1,none⟩ = some (.string p.value) ∧ v.cell? ⟨w.heap.size,2,none⟩ = some (.bool p.gone)) := hQ_ fun v hv => (by
  obtain ⟨x0,x1,x2,x3,x4⟩ := node_blk HK.out hv
  obtain ⟨y0,y1,y2⟩ := pair_blk HP.out hv
  exact ⟨hv,x0,x1,x2,x3,x4,y0,y1,y2⟩)
 refine wp_region_held_drew (S := fun v => Below W.heap.size W v ∧ v.cell? ⟨b,0,none⟩ = some (.string q.key) ∧ v.cell? ⟨b,1,none⟩ = some (.string q.value) ∧ v.cell? ⟨b,2,none⟩ = some (.bool q.gone) ∧ v.cell? ⟨b,3,none⟩ = some (.pointer C) ∧ v.cell? ⟨b,4,none⟩ = some (.pointer D) ∧ v.cell? ⟨w.heap.size,0,none⟩ = some (.string p.key) ∧ v.cell? ⟨w.heap.size,1,none⟩ = some (.string p.value) ∧ v.cell? ⟨w.heap.size,2,none⟩ = some (.bool p.gone)) (by kernel_rfl) (RD2.out _ hv1.drew) (fun hHeld => ?_)
 refine hw_ 0 (some 20) ?_
 refine hw_ 1 (some 21) ?_
 refine hw_ 2 (some 22) ?_
 refine hw_ 3 (some 23) ?_
 refine hw_ 4 (some 24) ?_
 refine hw_ 5 (some 25) ?_
 refine hw_ 6 (some 26) ?_
 refine hw_ 7 (some 27) ?_
 refine hw_ 8 (some 28) ?_
 refine hw_ 9 (some 29) ?_
 refine hw_ 10 (some 30) ?_
 refine ho_step 11 (some 31) rfl rfl (by kernel_rfl) (by kernel_rfl) (fun K hK => ?_)
 go_simp
 (go_at_call 139; refine (join_calls inner s p D B _ (HIN.out.below (And.left hHeld)) (HS.out.below (And.left hHeld)) (by have := HN.out; simp only [Tt.sz] at this ⊢; omega)).mono ?_; rintro e w3 ⟨A3,rfl,hn3,hb3⟩; have hx3 : Below W.heap.size W w3 := keeps (And.left hHeld) hb3; have HN3 := hQ_ hn3; clear hn3)
 try go_wp2_with fail
 refine hK.out _ _ (RD2.out _ hx3) (fun hHeld2 => ?_)
 clear hHeld
 have hHeld := hHeld2
 clear hHeld2
 clear hK K
 try simp only [pZ_]
 refine ho_step 12 (some 32) rfl rfl (by kernel_rfl) (by kernel_rfl) (fun K hK => ?_)
 go_simp
 (go_at_call 139; refine (join_calls ot (Tt.nd inner p s) q C _ _ (HOT.out.below (And.left hHeld)) HN3.out (by have := HN.out; simp only [Tt.sz] at this ⊢; omega)).mono ?_; rintro e w4 ⟨A4,rfl,hn4,hb4⟩; have hx4 : Below W.heap.size W w4 := keeps (And.left hHeld) hb4; have HN4 := hQ_ hn4; clear hn4)
 try go_wp2_with fail
 refine hK.out _ _ (RD2.out _ hx4) (fun hHeld2 => ?_)
 clear hHeld
 have hHeld := hHeld2
 clear hHeld2
 clear hK K
 try simp only [pZ_]
 refine hw_ 13 (some 6) ?_
 refine wpAnyH_done (by kernel_rfl) ?_ _
 have HZ := hQ_ (keeps HB1.out hHeld.1)
 clear hHeld RD2
 go_wp2_with fail
 go_ret
 exact ⟨_,rfl,HN4.out,HZ.out⟩
theorem leanR_2 (ot s ia ib : Tt) (q p ip : Pr) (A B : Option Addr) (w : World) (hl : Nd w (Tt.nd ot q (Tt.nd ia ip ib)) A) (hr : Nd w s B) (hn : (Tt.nd ot q (Tt.nd ia ip ib)).sz + s.sz ≤ 90000) (hh : ot.ht < (Tt.nd ia ip ib).ht) :
 Calls Tryz.prog 154 #[.pointer A,.agg #[.string p.key,.string p.value,.bool p.gone],.pointer B] w (NdR (Tt.nd (Tt.nd ot q ia) ip (Tt.nd ib p s)) w) := by
 obtain ⟨b,C,D,rfl,hk,hot,hin⟩ := hl
 have HP := hQ_ (Blk.new_ w #[.string p.key,.string p.value,.bool p.gone] 46)
 have hb1 := bX_ HP.out
 have HK := hQ_ (hk.below hb1)
 have HOT := hQ_ (hot.below hb1)
 have HIN := hQ_ (hin.below hb1)
 have HS := hQ_ (hr.below hb1)
 have HB1 := hQ_ hb1
 have hlt : b < w.heap.size := hk.lt
 have c4 := cZ4 HK.out
 obtain ⟨h1,e1⟩ : ∃ n,ot.ht = n := ⟨_,rfl⟩
 obtain ⟨h2,e2⟩ : ∃ n,(Tt.nd ia ip ib).ht = n := ⟨_,rfl⟩
 rw [e1,e2] at hh
 have HN := hQ_ hn
 have E1 := hQ_ e1
 have E2 := hQ_ e2
 clear hk hot hin hr hb1 e1 e2 hn
 go_enter Tryz.func154,Tryz.ntmps154
 go_wp2_with fail
 obtain ⟨W,hW⟩ : ∃ W,(w.alloc (.cells #[.string p.key,.string p.value,.bool p.gone] 46)) = W := ⟨_,rfl⟩
 rw [hW] at HP HK HOT HIN HS HB1 c4 ⊢
 clear hW c4
 obtain ⟨d,E,F,rfl,hk2,hia,hib⟩ := HIN.out
 have HK2 := hQ_ hk2
 have HIA := hQ_ hia
 have HIB := hQ_ hib
 clear hk2 hia hib
 have RD1 : Hid (∀ v,Below W.heap.size W v → Below W.heap.size W v ∧ v.cell? ⟨b,0,none⟩ = some (.string q.key) ∧ v.cell? ⟨b,1,none⟩ = some (.string q.value) ∧ v.cell? ⟨b,2,none⟩ = some (.bool q.gone) ∧ v.cell? ⟨b,3,none⟩ = some (.pointer C) ∧ v.cell? ⟨b,4,none⟩ = some (.pointer (some ⟨d,0,none⟩))) := hQ_ fun v hv => ⟨hv,node_blk HK.out hv⟩
 have d1 : decide ((h2 : Int) ≤ (h1 : Int)) = false := decide_eq_false (by omega)
 have d2 : decide (h2 ≤ h1) = false := decide_eq_false (by omega)
 refine wp_region_held_drew (S := fun v => Below W.heap.size W v ∧ v.cell? ⟨b,0,none⟩ = some (.string q.key) ∧ v.cell? ⟨b,1,none⟩ = some (.string q.value) ∧ v.cell? ⟨b,2,none⟩ = some (.bool q.gone) ∧ v.cell? ⟨b,3,none⟩ = some (.pointer C) ∧ v.cell? ⟨b,4,none⟩ = some (.pointer (some ⟨d,0,none⟩))) (by kernel_rfl) (RD1.out _ (Below.drew (Below.refl _ _))) (fun hHeld => ?_)
 refine hw_ 0 (some 12) ?_
 refine hw_ 2 (some 14) ?_
 refine hw_ 3 (some 15) ?_
 refine hw_ 4 (some 16) ?_
 refine hw_ 5 (some 17) ?_
 refine ho_step 1 (some 13) rfl rfl (by kernel_rfl) (by kernel_rfl) (fun K hK => ?_)
 go_simp
 (go_at_call 153; refine (height_calls (Tt.nd ia ip ib) (some ⟨d,0,none⟩) _ (HIN.out.below (And.left hHeld)) h2 E2.out).mono ?_; rintro e w3 ⟨rfl,rfl⟩)
 try go_wp2_with fail
 refine hK.out _ _ (hHeld) (fun hHeld2 => ?_)
 clear hHeld
 have hHeld := hHeld2
 clear hHeld2
 clear hK K
 try simp only [pZ_]
 refine ho_step 6 (some 18) rfl rfl (by kernel_rfl) (by kernel_rfl) (fun K hK => ?_)
 go_simp
 (go_at_call 153; refine (height_calls ot C _ (HOT.out.below (And.left hHeld)) h1 E1.out).mono ?_; rintro e w3 ⟨rfl,rfl⟩)
 try go_wp2_with fail
 refine hK.out _ _ (hHeld) (fun hHeld2 => ?_)
 clear hHeld
 have hHeld := hHeld2
 clear hHeld2
 clear hK K
 try simp only [pZ_]
 refine hw_ 7 (some 19) ?_
 refine wpAnyH_done (by kernel_rfl) ?_ _
 have hv1 := hHeld.1
 clear hHeld RD1
 go_wp2_with fail
 obtain ⟨W2,hW2⟩ : ∃ W2,W.drew = W2 := ⟨_,rfl⟩
 rw [hW2] at hv1 ⊢
 clear hW2 d1 d2
 have RD2 : Hid (∀ v,Below W.heap.size W v → Below W.heap.size W v ∧ v.cell? ⟨b,0,none⟩ = some (.string q.key) ∧ v.cell? ⟨b,1,none⟩ = some (.string q.value) ∧ v.cell? ⟨b,2,none⟩ = some (.bool q.gone) ∧ v.cell? ⟨b,3,none⟩ = some (.pointer C) ∧ v.cell? ⟨b,4,none⟩ = some (.pointer (some ⟨d,0,none⟩)) ∧ v.cell? ⟨w.heap.size,0,none⟩ = some (.string p.key) ∧ v.cell? ⟨w.heap.size,1,none⟩ = some (.string p.value) ∧ v.cell? ⟨w.heap.size,2,none⟩ = some (.bool p.gone) ∧ v.cell? ⟨d,0,none⟩ = some (.string ip.key) ∧ v.cell? ⟨d,1,none⟩ = some (.string ip.value) ∧ v.cell? ⟨d,2,none⟩ = some (.bool ip.gone) ∧ v.cell? ⟨d,3,none⟩ = some (.pointer E) ∧ v.cell? ⟨d,4,none⟩ = some (.pointer F)) := hQ_ fun v hv => (by
  obtain ⟨x0,x1,x2,x3,x4⟩ := node_blk HK.out hv
  obtain ⟨y0,y1,y2⟩ := pair_blk HP.out hv
  obtain ⟨z0,z1,z2,z3,z4⟩ := node_blk HK2.out hv
  exact ⟨hv,x0,x1,x2,x3,x4,y0,y1,y2,z0,z1,z2,z3,z4⟩)
 refine wp_region_held_drew (S := fun v => Below W.heap.size W v ∧ v.cell? ⟨b,0,none⟩ = some (.string q.key) ∧ v.cell? ⟨b,1,none⟩ = some (.string q.value) ∧ v.cell? ⟨b,2,none⟩ = some (.bool q.gone) ∧ v.cell? ⟨b,3,none⟩ = some (.pointer C) ∧ v.cell? ⟨b,4,none⟩ = some (.pointer (some ⟨d,0,none⟩)) ∧ v.cell? ⟨w.heap.size,0,none⟩ = some (.string p.key) ∧ v.cell? ⟨w.heap.size,1,none⟩ = some (.string p.value) ∧ v.cell? ⟨w.heap.size,2,none⟩ = some (.bool p.gone) ∧ v.cell? ⟨d,0,none⟩ = some (.string ip.key) ∧ v.cell? ⟨d,1,none⟩ = some (.string ip.value) ∧ v.cell? ⟨d,2,none⟩ = some (.bool ip.gone) ∧ v.cell? ⟨d,3,none⟩ = some (.pointer E) ∧ v.cell? ⟨d,4,none⟩ = some (.pointer F)) (by kernel_rfl) (RD2.out _ hv1.drew) (fun hHeld => ?_)
 refine hw_ 0 (some 33) ?_
 refine hw_ 1 (some 34) ?_
 refine hw_ 2 (some 35) ?_
 refine hw_ 3 (some 36) ?_
 refine hw_ 4 (some 37) ?_
 refine hw_ 5 (some 38) ?_
 refine hw_ 6 (some 39) ?_
 refine hw_ 7 (some 40) ?_
 refine hw_ 8 (some 41) ?_
 refine hw_ 9 (some 42) ?_
 refine hw_ 10 (some 43) ?_
 refine hw_ 11 (some 44) ?_
 refine hw_ 13 (some 46) ?_
 refine hw_ 14 (some 47) ?_
 refine hw_ 15 (some 48) ?_
 refine hw_ 16 (some 49) ?_
 refine hw_ 17 (some 50) ?_
 refine hw_ 18 (some 51) ?_
 refine hw_ 19 (some 52) ?_
 refine hw_ 20 (some 53) ?_
 refine hw_ 21 (some 54) ?_
 refine hw_ 22 (some 55) ?_
 refine ho_step 12 (some 45) rfl rfl (by kernel_rfl) (by kernel_rfl) (fun K hK => ?_)
 go_simp
 (go_at_call 139; refine (join_calls ot ia q C E _ (HOT.out.below (And.left hHeld)) (HIA.out.below (And.left hHeld)) (by have := HN.out; simp only [Tt.sz] at this ⊢; omega)).mono ?_; rintro e w3 ⟨A3,rfl,hn3,hb3⟩; have hx3 : Below W.heap.size W w3 := keeps (And.left hHeld) hb3; have HN3 := hQ_ hn3; clear hn3)
 try go_wp2_with fail
 refine hK.out _ _ (RD2.out _ hx3) (fun hHeld2 => ?_)
 clear hHeld
 have hHeld := hHeld2
 clear hHeld2
 clear hK K
 try simp only [pZ_]
 refine ho_step 23 (some 56) rfl rfl (by kernel_rfl) (by kernel_rfl) (fun K hK => ?_)
 go_simp
 (go_at_call 139; refine (join_calls ib s p F B _ (HIB.out.below (And.left hHeld)) (HS.out.below (And.left hHeld)) (by have := HN.out; simp only [Tt.sz] at this ⊢; omega)).mono ?_; rintro e w4 ⟨A4,rfl,hn4,hb4⟩; have hx4 : Below W.heap.size W w4 := keeps (And.left hHeld) hb4; have HN3b := hQ_ (HN3.out.below hb4); have HN4 := hQ_ hn4; clear hn4)
 try go_wp2_with fail
 refine hK.out _ _ (RD2.out _ hx4) (fun hHeld2 => ?_)
 clear hHeld
 have hHeld := hHeld2
 clear hHeld2
 clear hK K
 try simp only [pZ_]
 refine ho_step 24 (some 57) rfl rfl (by kernel_rfl) (by kernel_rfl) (fun K hK => ?_)
 go_simp
 (go_at_call 139; refine (join_calls (Tt.nd ot q ia) (Tt.nd ib p s) ip _ _ _ HN3b.out HN4.out (by have := HN.out; simp only [Tt.sz] at this ⊢; omega)).mono ?_; rintro e w5 ⟨A5,rfl,hn5,hb5⟩; have hx5 : Below W.heap.size W w5 := keeps (And.left hHeld) hb5; have HN5 := hQ_ hn5; clear hn5)
 try go_wp2_with fail
 refine hK.out _ _ (RD2.out _ hx5) (fun hHeld2 => ?_)
 clear hHeld
 have hHeld := hHeld2
 clear hHeld2
 clear hK K
 try simp only [pZ_]
 refine hw_ 25 (some 6) ?_
 refine wpAnyH_done (by kernel_rfl) ?_ _
 have HZ := hQ_ (keeps HB1.out hHeld.1)
 clear hHeld RD2
 go_wp2_with fail
 go_ret
 exact ⟨_,rfl,HN5.out,HZ.out⟩
theorem leanL_1 (ot s inner : Tt) (q p : Pr) (A B : Option Addr) (w : World) (hl : Nd w (Tt.nd inner q ot) A) (hr : Nd w s B) (hn : (Tt.nd inner q ot).sz + s.sz ≤ 90000) (hh : inner.ht ≤ ot.ht) :
 Calls Tryz.prog 155 #[.pointer B,.agg #[.string p.key,.string p.value,.bool p.gone],.pointer A] w (NdR (Tt.nd (Tt.nd s p inner) q ot) w) := by
 obtain ⟨b,D,C,rfl,hk,hin,hot⟩ := hl
 have HP := hQ_ (Blk.new_ w #[.string p.key,.string p.value,.bool p.gone] 46)
 have hb1 := bX_ HP.out
 have HK := hQ_ (hk.below hb1)
 have HOT := hQ_ (hot.below hb1)
 have HIN := hQ_ (hin.below hb1)
 have HS := hQ_ (hr.below hb1)
 have HB1 := hQ_ hb1
 have hlt : b < w.heap.size := hk.lt
 have c4 := cZ3 HK.out
 obtain ⟨h1,e1⟩ : ∃ n,ot.ht = n := ⟨_,rfl⟩
 obtain ⟨h2,e2⟩ : ∃ n,inner.ht = n := ⟨_,rfl⟩
 rw [e1,e2] at hh
 have HN := hQ_ hn
 have E1 := hQ_ e1
 have E2 := hQ_ e2
 clear hk hot hin hr hb1 e1 e2 hn
 go_enter Tryz.func155,Tryz.ntmps155
 go_wp2_with fail
 obtain ⟨W,hW⟩ : ∃ W,(w.alloc (.cells #[.string p.key,.string p.value,.bool p.gone] 46)) = W := ⟨_,rfl⟩
 rw [hW] at HP HK HOT HIN HS HB1 c4 ⊢
 clear hW c4
 have RD1 : Hid (∀ v,Below W.heap.size W v → Below W.heap.size W v ∧ v.cell? ⟨b,0,none⟩ = some (.string q.key) ∧ v.cell? ⟨b,1,none⟩ = some (.string q.value) ∧ v.cell? ⟨b,2,none⟩ = some (.bool q.gone) ∧ v.cell? ⟨b,3,none⟩ = some (.pointer D) ∧ v.cell? ⟨b,4,none⟩ = some (.pointer C)) := hQ_ fun v hv => ⟨hv,node_blk HK.out hv⟩
 have d1 : decide ((h2 : Int) ≤ (h1 : Int)) = true := decide_eq_true (by omega)
 have d2 : decide (h2 ≤ h1) = true := decide_eq_true (by omega)
 refine wp_region_held_drew (S := fun v => Below W.heap.size W v ∧ v.cell? ⟨b,0,none⟩ = some (.string q.key) ∧ v.cell? ⟨b,1,none⟩ = some (.string q.value) ∧ v.cell? ⟨b,2,none⟩ = some (.bool q.gone) ∧ v.cell? ⟨b,3,none⟩ = some (.pointer D) ∧ v.cell? ⟨b,4,none⟩ = some (.pointer C)) (by kernel_rfl) (RD1.out _ (Below.drew (Below.refl _ _))) (fun hHeld => ?_)
 refine hw_ 0 (some 12) ?_
 refine hw_ 2 (some 14) ?_
 refine hw_ 3 (some 15) ?_
 refine hw_ 4 (some 16) ?_
 refine hw_ 5 (some 17) ?_
 refine ho_step 1 (some 13) rfl rfl (by kernel_rfl) (by kernel_rfl) (fun K hK => ?_)
 go_simp
 (go_at_call 153; refine (height_calls inner D _ (HIN.out.below (And.left hHeld)) h2 E2.out).mono ?_; rintro e w3 ⟨rfl,rfl⟩)
 try go_wp2_with fail
 refine hK.out _ _ (hHeld) (fun hHeld2 => ?_)
 clear hHeld
 have hHeld := hHeld2
 clear hHeld2
 clear hK K
 try simp only [pZ_]
 refine ho_step 6 (some 18) rfl rfl (by kernel_rfl) (by kernel_rfl) (fun K hK => ?_)
 go_simp
 (go_at_call 153; refine (height_calls ot C _ (HOT.out.below (And.left hHeld)) h1 E1.out).mono ?_; rintro e w3 ⟨rfl,rfl⟩)
 try go_wp2_with fail
 refine hK.out _ _ (hHeld) (fun hHeld2 => ?_)
 clear hHeld
 have hHeld := hHeld2
 clear hHeld2
 clear hK K
 try simp only [pZ_]
 refine hw_ 7 (some 19) ?_
 refine wpAnyH_done (by kernel_rfl) ?_ _
 have hv1 := hHeld.1
 clear hHeld RD1
 go_wp2_with fail
 obtain ⟨W2,hW2⟩ : ∃ W2,W.drew = W2 := ⟨_,rfl⟩
 rw [hW2] at hv1 ⊢
 clear hW2 d1 d2
 have RD2 : Hid (∀ v,Below W.heap.size W v → Below W.heap.size W v ∧ v.cell? ⟨b,0,none⟩ = some (.string q.key) ∧ v.cell? ⟨b,1,none⟩ = some (.string q.value) ∧ v.cell? ⟨b,2,none⟩ = some (.bool q.gone) ∧ v.cell? ⟨b,3,none⟩ = some (.pointer D) ∧ v.cell? ⟨b,4,none⟩ = some (.pointer C) ∧ v.cell? ⟨w.heap.size,0,none⟩ = some (.string p.key) ∧ v.cell? ⟨w.heap.size,1,none⟩ = some (.string p.value) ∧ v.cell? ⟨w.heap.size,2,none⟩ = some (.bool p.gone)) := hQ_ fun v hv => (by
  obtain ⟨x0,x1,x2,x3,x4⟩ := node_blk HK.out hv
  obtain ⟨y0,y1,y2⟩ := pair_blk HP.out hv
  exact ⟨hv,x0,x1,x2,x3,x4,y0,y1,y2⟩)
 refine wp_region_held_drew (S := fun v => Below W.heap.size W v ∧ v.cell? ⟨b,0,none⟩ = some (.string q.key) ∧ v.cell? ⟨b,1,none⟩ = some (.string q.value) ∧ v.cell? ⟨b,2,none⟩ = some (.bool q.gone) ∧ v.cell? ⟨b,3,none⟩ = some (.pointer D) ∧ v.cell? ⟨b,4,none⟩ = some (.pointer C) ∧ v.cell? ⟨w.heap.size,0,none⟩ = some (.string p.key) ∧ v.cell? ⟨w.heap.size,1,none⟩ = some (.string p.value) ∧ v.cell? ⟨w.heap.size,2,none⟩ = some (.bool p.gone)) (by kernel_rfl) (RD2.out _ hv1.drew) (fun hHeld => ?_)
 refine hw_ 0 (some 20) ?_
 refine hw_ 1 (some 21) ?_
 refine hw_ 2 (some 22) ?_
 refine hw_ 4 (some 24) ?_
 refine hw_ 5 (some 25) ?_
 refine hw_ 6 (some 26) ?_
 refine hw_ 7 (some 27) ?_
 refine hw_ 8 (some 28) ?_
 refine hw_ 9 (some 29) ?_
 refine hw_ 10 (some 30) ?_
 refine hw_ 11 (some 31) ?_
 refine ho_step 3 (some 23) rfl rfl (by kernel_rfl) (by kernel_rfl) (fun K hK => ?_)
 go_simp
 (go_at_call 139; refine (join_calls s inner p B D _ (HS.out.below (And.left hHeld)) (HIN.out.below (And.left hHeld)) (by have := HN.out; simp only [Tt.sz] at this ⊢; omega)).mono ?_; rintro e w3 ⟨A3,rfl,hn3,hb3⟩; have hx3 : Below W.heap.size W w3 := keeps (And.left hHeld) hb3; have HN3 := hQ_ hn3; clear hn3)
 try go_wp2_with fail
 refine hK.out _ _ (RD2.out _ hx3) (fun hHeld2 => ?_)
 clear hHeld
 have hHeld := hHeld2
 clear hHeld2
 clear hK K
 try simp only [pZ_]
 refine ho_step 12 (some 32) rfl rfl (by kernel_rfl) (by kernel_rfl) (fun K hK => ?_)
 go_simp
 (go_at_call 139; refine (join_calls (Tt.nd s p inner) ot q _ C _ HN3.out (HOT.out.below (And.left hHeld)) (by have := HN.out; simp only [Tt.sz] at this ⊢; omega)).mono ?_; rintro e w4 ⟨A4,rfl,hn4,hb4⟩; have hx4 : Below W.heap.size W w4 := keeps (And.left hHeld) hb4; have HN4 := hQ_ hn4; clear hn4)
 try go_wp2_with fail
 refine hK.out _ _ (RD2.out _ hx4) (fun hHeld2 => ?_)
 clear hHeld
 have hHeld := hHeld2
 clear hHeld2
 clear hK K
 try simp only [pZ_]
 refine hw_ 13 (some 6) ?_
 refine wpAnyH_done (by kernel_rfl) ?_ _
 have HZ := hQ_ (keeps HB1.out hHeld.1)
 clear hHeld RD2
 go_wp2_with fail
 go_ret
 exact ⟨_,rfl,HN4.out,HZ.out⟩
theorem leanL_2 (ot s ia ib : Tt) (q p ip : Pr) (A B : Option Addr) (w : World) (hl : Nd w (Tt.nd (Tt.nd ia ip ib) q ot) A) (hr : Nd w s B) (hn : (Tt.nd (Tt.nd ia ip ib) q ot).sz + s.sz ≤ 90000) (hh : ot.ht < (Tt.nd ia ip ib).ht) :
 Calls Tryz.prog 155 #[.pointer B,.agg #[.string p.key,.string p.value,.bool p.gone],.pointer A] w (NdR (Tt.nd (Tt.nd s p ia) ip (Tt.nd ib q ot)) w) := by
 obtain ⟨b,D,C,rfl,hk,hin,hot⟩ := hl
 have HP := hQ_ (Blk.new_ w #[.string p.key,.string p.value,.bool p.gone] 46)
 have hb1 := bX_ HP.out
 have HK := hQ_ (hk.below hb1)
 have HOT := hQ_ (hot.below hb1)
 have HIN := hQ_ (hin.below hb1)
 have HS := hQ_ (hr.below hb1)
 have HB1 := hQ_ hb1
 have hlt : b < w.heap.size := hk.lt
 have c4 := cZ3 HK.out
 obtain ⟨h1,e1⟩ : ∃ n,ot.ht = n := ⟨_,rfl⟩
 obtain ⟨h2,e2⟩ : ∃ n,(Tt.nd ia ip ib).ht = n := ⟨_,rfl⟩
 rw [e1,e2] at hh
 have HN := hQ_ hn
 have E1 := hQ_ e1
 have E2 := hQ_ e2
 clear hk hot hin hr hb1 e1 e2 hn
 go_enter Tryz.func155,Tryz.ntmps155
 go_wp2_with fail
 obtain ⟨W,hW⟩ : ∃ W,(w.alloc (.cells #[.string p.key,.string p.value,.bool p.gone] 46)) = W := ⟨_,rfl⟩
 rw [hW] at HP HK HOT HIN HS HB1 c4 ⊢
 clear hW c4
 obtain ⟨d,E,F,rfl,hk2,hia,hib⟩ := HIN.out
 have HK2 := hQ_ hk2
 have HIA := hQ_ hia
 have HIB := hQ_ hib
 clear hk2 hia hib
 have RD1 : Hid (∀ v,Below W.heap.size W v → Below W.heap.size W v ∧ v.cell? ⟨b,0,none⟩ = some (.string q.key) ∧ v.cell? ⟨b,1,none⟩ = some (.string q.value) ∧ v.cell? ⟨b,2,none⟩ = some (.bool q.gone) ∧ v.cell? ⟨b,3,none⟩ = some (.pointer (some ⟨d,0,none⟩)) ∧ v.cell? ⟨b,4,none⟩ = some (.pointer C)) := hQ_ fun v hv => ⟨hv,node_blk HK.out hv⟩
 have d1 : decide ((h2 : Int) ≤ (h1 : Int)) = false := decide_eq_false (by omega)
 have d2 : decide (h2 ≤ h1) = false := decide_eq_false (by omega)
 refine wp_region_held_drew (S := fun v => Below W.heap.size W v ∧ v.cell? ⟨b,0,none⟩ = some (.string q.key) ∧ v.cell? ⟨b,1,none⟩ = some (.string q.value) ∧ v.cell? ⟨b,2,none⟩ = some (.bool q.gone) ∧ v.cell? ⟨b,3,none⟩ = some (.pointer (some ⟨d,0,none⟩)) ∧ v.cell? ⟨b,4,none⟩ = some (.pointer C)) (by kernel_rfl) (RD1.out _ (Below.drew (Below.refl _ _))) (fun hHeld => ?_)
 refine hw_ 0 (some 12) ?_
 refine hw_ 2 (some 14) ?_
 refine hw_ 3 (some 15) ?_
 refine hw_ 4 (some 16) ?_
 refine hw_ 5 (some 17) ?_
 refine ho_step 1 (some 13) rfl rfl (by kernel_rfl) (by kernel_rfl) (fun K hK => ?_)
 go_simp
 (go_at_call 153; refine (height_calls (Tt.nd ia ip ib) (some ⟨d,0,none⟩) _ (HIN.out.below (And.left hHeld)) h2 E2.out).mono ?_; rintro e w3 ⟨rfl,rfl⟩)
 try go_wp2_with fail
 refine hK.out _ _ (hHeld) (fun hHeld2 => ?_)
 clear hHeld
 have hHeld := hHeld2
 clear hHeld2
 clear hK K
 try simp only [pZ_]
 refine ho_step 6 (some 18) rfl rfl (by kernel_rfl) (by kernel_rfl) (fun K hK => ?_)
 go_simp
 (go_at_call 153; refine (height_calls ot C _ (HOT.out.below (And.left hHeld)) h1 E1.out).mono ?_; rintro e w3 ⟨rfl,rfl⟩)
 try go_wp2_with fail
 refine hK.out _ _ (hHeld) (fun hHeld2 => ?_)
 clear hHeld
 have hHeld := hHeld2
 clear hHeld2
 clear hK K
 try simp only [pZ_]
 refine hw_ 7 (some 19) ?_
 refine wpAnyH_done (by kernel_rfl) ?_ _
 have hv1 := hHeld.1
 clear hHeld RD1
 go_wp2_with fail
 obtain ⟨W2,hW2⟩ : ∃ W2,W.drew = W2 := ⟨_,rfl⟩
 rw [hW2] at hv1 ⊢
 clear hW2 d1 d2
 have RD2 : Hid (∀ v,Below W.heap.size W v → Below W.heap.size W v ∧ v.cell? ⟨b,0,none⟩ = some (.string q.key) ∧ v.cell? ⟨b,1,none⟩ = some (.string q.value) ∧ v.cell? ⟨b,2,none⟩ = some (.bool q.gone) ∧ v.cell? ⟨b,3,none⟩ = some (.pointer (some ⟨d,0,none⟩)) ∧ v.cell? ⟨b,4,none⟩ = some (.pointer C) ∧ v.cell? ⟨w.heap.size,0,none⟩ = some (.string p.key) ∧ v.cell? ⟨w.heap.size,1,none⟩ = some (.string p.value) ∧ v.cell? ⟨w.heap.size,2,none⟩ = some (.bool p.gone) ∧ v.cell? ⟨d,0,none⟩ = some (.string ip.key) ∧ v.cell? ⟨d,1,none⟩ = some (.string ip.value) ∧ v.cell? ⟨d,2,none⟩ = some (.bool ip.gone) ∧ v.cell? ⟨d,3,none⟩ = some (.pointer E) ∧ v.cell? ⟨d,4,none⟩ = some (.pointer F)) := hQ_ fun v hv => (by
  obtain ⟨x0,x1,x2,x3,x4⟩ := node_blk HK.out hv
  obtain ⟨y0,y1,y2⟩ := pair_blk HP.out hv
  obtain ⟨z0,z1,z2,z3,z4⟩ := node_blk HK2.out hv
  exact ⟨hv,x0,x1,x2,x3,x4,y0,y1,y2,z0,z1,z2,z3,z4⟩)
 refine wp_region_held_drew (S := fun v => Below W.heap.size W v ∧ v.cell? ⟨b,0,none⟩ = some (.string q.key) ∧ v.cell? ⟨b,1,none⟩ = some (.string q.value) ∧ v.cell? ⟨b,2,none⟩ = some (.bool q.gone) ∧ v.cell? ⟨b,3,none⟩ = some (.pointer (some ⟨d,0,none⟩)) ∧ v.cell? ⟨b,4,none⟩ = some (.pointer C) ∧ v.cell? ⟨w.heap.size,0,none⟩ = some (.string p.key) ∧ v.cell? ⟨w.heap.size,1,none⟩ = some (.string p.value) ∧ v.cell? ⟨w.heap.size,2,none⟩ = some (.bool p.gone) ∧ v.cell? ⟨d,0,none⟩ = some (.string ip.key) ∧ v.cell? ⟨d,1,none⟩ = some (.string ip.value) ∧ v.cell? ⟨d,2,none⟩ = some (.bool ip.gone) ∧ v.cell? ⟨d,3,none⟩ = some (.pointer E) ∧ v.cell? ⟨d,4,none⟩ = some (.pointer F)) (by kernel_rfl) (RD2.out _ hv1.drew) (fun hHeld => ?_)
 refine hw_ 0 (some 33) ?_
 refine hw_ 1 (some 34) ?_
 refine hw_ 2 (some 35) ?_
 refine hw_ 3 (some 36) ?_
 refine hw_ 4 (some 37) ?_
 refine hw_ 5 (some 38) ?_
 refine hw_ 7 (some 40) ?_
 refine hw_ 8 (some 41) ?_
 refine hw_ 9 (some 42) ?_
 refine hw_ 10 (some 43) ?_
 refine hw_ 11 (some 44) ?_
 refine hw_ 12 (some 45) ?_
 refine hw_ 13 (some 46) ?_
 refine hw_ 14 (some 47) ?_
 refine hw_ 15 (some 48) ?_
 refine hw_ 16 (some 49) ?_
 refine hw_ 17 (some 50) ?_
 refine hw_ 18 (some 51) ?_
 refine hw_ 19 (some 52) ?_
 refine hw_ 20 (some 53) ?_
 refine hw_ 21 (some 54) ?_
 refine hw_ 22 (some 55) ?_
 refine ho_step 6 (some 39) rfl rfl (by kernel_rfl) (by kernel_rfl) (fun K hK => ?_)
 go_simp
 (go_at_call 139; refine (join_calls s ia p B E _ (HS.out.below (And.left hHeld)) (HIA.out.below (And.left hHeld)) (by have := HN.out; simp only [Tt.sz] at this ⊢; omega)).mono ?_; rintro e w3 ⟨A3,rfl,hn3,hb3⟩; have hx3 : Below W.heap.size W w3 := keeps (And.left hHeld) hb3; have HN3 := hQ_ hn3; clear hn3)
 try go_wp2_with fail
 refine hK.out _ _ (RD2.out _ hx3) (fun hHeld2 => ?_)
 clear hHeld
 have hHeld := hHeld2
 clear hHeld2
 clear hK K
 try simp only [pZ_]
 refine ho_step 23 (some 56) rfl rfl (by kernel_rfl) (by kernel_rfl) (fun K hK => ?_)
 go_simp
 (go_at_call 139; refine (join_calls ib ot q F C _ (HIB.out.below (And.left hHeld)) (HOT.out.below (And.left hHeld)) (by have := HN.out; simp only [Tt.sz] at this ⊢; omega)).mono ?_; rintro e w4 ⟨A4,rfl,hn4,hb4⟩; have hx4 : Below W.heap.size W w4 := keeps (And.left hHeld) hb4; have HN3b := hQ_ (HN3.out.below hb4); have HN4 := hQ_ hn4; clear hn4)
 try go_wp2_with fail
 refine hK.out _ _ (RD2.out _ hx4) (fun hHeld2 => ?_)
 clear hHeld
 have hHeld := hHeld2
 clear hHeld2
 clear hK K
 try simp only [pZ_]
 refine ho_step 24 (some 57) rfl rfl (by kernel_rfl) (by kernel_rfl) (fun K hK => ?_)
 go_simp
 (go_at_call 139; refine (join_calls (Tt.nd s p ia) (Tt.nd ib q ot) ip _ _ _ HN3b.out HN4.out (by have := HN.out; simp only [Tt.sz] at this ⊢; omega)).mono ?_; rintro e w5 ⟨A5,rfl,hn5,hb5⟩; have hx5 : Below W.heap.size W w5 := keeps (And.left hHeld) hb5; have HN5 := hQ_ hn5; clear hn5)
 try go_wp2_with fail
 refine hK.out _ _ (RD2.out _ hx5) (fun hHeld2 => ?_)
 clear hHeld
 have hHeld := hHeld2
 clear hHeld2
 clear hK K
 try simp only [pZ_]
 refine hw_ 25 (some 6) ?_
 refine wpAnyH_done (by kernel_rfl) ?_ _
 have HZ := hQ_ (keeps HB1.out hHeld.1)
 clear hHeld RD2
 go_wp2_with fail
 go_ret
 exact ⟨_,rfl,HN5.out,HZ.out⟩
end Go.Proofs.YtfalhnomhidkcaaGreatDoor.TreeE