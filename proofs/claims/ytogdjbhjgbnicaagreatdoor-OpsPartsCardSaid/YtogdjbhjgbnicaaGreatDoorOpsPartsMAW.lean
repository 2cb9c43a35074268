import Derived.Deep.LoopGhost
import Derived.Laws.ResultCell
import Derived.Test.YtogdjbhjgbnicaaGreatDoorSq
import Derived.Test.YtogdjbhjgbnicaaGreatDoorTreeD
set_option maxHeartbeats 16000000
set_option linter.unusedVariables false
set_option linter.unusedSimpArgs false
set_option maxRecDepth 100000
namespace Go.Proofs.YtogdjbhjgbnicaaGreatDoor.TreeQ
open Go.RowKit
open Byte KeysM TreeM Own Lst TreeR TreeL TreeB TreeD
def Vn (w : World) (b : Nat) (A : Option Addr) (t : Tt) : Prop := Blk w b #[.pointer A] 76 ∧ Nd w t A
theorem get_ino_l {l r : Tt} {q : Pr} {k : ByteArray} (h : Rise (Tt.nd l q r).ino) (hk : kl k q.key = true) : getL k (Tt.nd l q r).ino = getL k l.ino := Tt.get_l h hk
theorem get_ino_r {l r : Tt} {q : Pr} {k : ByteArray} (h : Rise (Tt.nd l q r).ino) (hk : kl q.key k = true) : getL k (Tt.nd l q r).ino = getL k r.ino := Tt.get_r h hk
theorem get_ino_m {l r : Tt} {q : Pr} {k : ByteArray} (h : Rise (Tt.nd l q r).ino) (hk : k = q.key) : getL k (Tt.nd l q r).ino = some q := by
 subst hk
 exact Tt.get_m h
theorem neq_false {a b : ByteArray} (h : a ≠ b) : (a.toList == b.toList) = false := by rw [eq_list,decide_eq_false h]
theorem neq_true {a b : ByteArray} (h : a = b) : (a.toList == b.toList) = true := by rw [eq_list,decide_eq_true h]
theorem get_calls (b : Nat) (A : Option Addr) (t : Tt) (k : ByteArray) (w : World) (h : Vn w b A t) (hr : Rise t.ino) (G : Option Pr) (hG : getL k t.ino = G) :
 Calls Tryz.prog 42 #[.pointer (some ⟨b,0,none⟩),.string k] w fun e w' => e = .returned (GotV G) ∧ w = w' := by
 have HN := hQ_ h.2
 have HT := hQ_ h.1
 have HR := hQ_ hr
 have HG := hQ_ hG
 clear h hr hG
 go_enter Tryz.func42,Tryz.ntmps42
 go_wp2_with (go_at_call 74; refine (top_calls b A _ HT.out).mono ?_; rintro e w1 ⟨rfl,rfl⟩)
 go_loopg [6] t.sz (fun m n wr => ∃ (t' : Tt) (A' : Option Addr),n = .pointer A' ∧ Hid (Nd w t' A') ∧ Hid (Rise t'.ino) ∧ Hid (getL k t'.ino = G) ∧ Hid (t'.sz ≤ m) ∧ wr = w)
 case atStart => exact ⟨t,A,rfl,HN,HR,HG,hQ_ (Nat.le_refl _),rfl⟩
 case round =>
  obtain ⟨t',A',rfl,HN',HR',HG',HK,rfl⟩ := hrel
  cases t' with
  | no =>
    obtain rfl : A' = none := HN'.out
    have hG : none = G := HG'.out
    subst hG
    go_wp2_with fail
    go_ret2
    exact ⟨rfl,rfl⟩
  | nd l q r =>
    obtain ⟨d,C,D,rfl,hk,hl,hr⟩ := HN'.out
    have c0 := cC2 hk
    have HKK := hQ_ hk
    have HL := hQ_ hl
    have HRR := hQ_ hr
    clear hk hl hr
    by_cases he : k = q.key
    ·have z1 : (q.key.toList == k.toList) = true := neq_true he.symm
     have hG : some q = G := (get_ino_m HR'.out he).symm.trans HG'.out
     subst hG
     clear he
     go_wp2_with fail
     go_ret2
     exact ⟨rfl,rfl⟩
    ·have z1 : (q.key.toList == k.toList) = false := neq_false fun h => he h.symm
     cases h1 : kl k q.key with
     | true =>
       have HG2 := hQ_ ((get_ino_l HR'.out h1).symm.trans HG'.out)
       have HR2 := hQ_ (Tt.rise_mid HR'.out).1
       have H1 := hQ_ h1
       clear he h1
       go_wp2_with (go_at_call 75; refine (towards_l d q C D _ _ k _ HKK.out H1.out).mono ?_; rintro e w1 ⟨rfl,rfl⟩)
       go_roundg l.sz
       case rel => exact ⟨l,_,rfl,HL,HR2,HG2,hQ_ (Nat.le_refl _),rfl⟩
       case measure => have := HK.out; simp only [Tt.sz] at this; omega
     | false =>
       have h2 : kl q.key k = true := by
        cases h3 : kl q.key k with
        | true => rfl
        | false => exact absurd (kl_tri h1 h3) he
       have HG2 := hQ_ ((get_ino_r HR'.out h2).symm.trans HG'.out)
       have HR2 := hQ_ (Tt.rise_mid HR'.out).2.1
       have H1 := hQ_ h1
       clear he h1 h2
       go_wp2_with (go_at_call 75; refine (towards_r d q C D _ _ k _ HKK.out H1.out).mono ?_; rintro e w1 ⟨rfl,rfl⟩)
       go_roundg r.sz
       case rel => exact ⟨r,_,rfl,HRR,HR2,HG2,hQ_ (Nat.le_refl _),rfl⟩
       case measure => have := HK.out; simp only [Tt.sz] at this; omega
end Go.Proofs.YtogdjbhjgbnicaaGreatDoor.TreeQ
namespace Go.Proofs.YtogdjbhjgbnicaaGreatDoor.TreeJ
open Go.RowKit
open Byte KeysM TreeM Own Lst TreeR TreeL TreeB TreeD
def Gat (L : List Pr) (base : Nat) (w : World) (e : Ending) (w' : World) : Prop := ∃ v,e = .returned v ∧ So prE 64 w' base v L.length L ∧ Below base w w' ∧ Kept w w' ∧ base ≤ w'.heap.size
theorem kept_refl (w : World) : Kept w w := fun _ _ _ _ _ h => h
theorem kept_trans {w w' w'' : World} (h : Kept w w') (h' : Kept w' w'') : Kept w w'' := fun b cs U fr hU hb => h' b cs U fr hU (h b cs U fr hU hb)
theorem kept_alloc {w w' : World} (h : Kept w w') (x : Obj) : Kept w (w'.alloc x) := kept_trans h (Kept.of_below (bW_))
theorem own_of {w : World} {base n : Nat} {v : Value} {L M : List Pr} (h : So prE 64 w base v n L) (e : L = M) : So prE 64 w base v M.length M := by
 subst e
 rw [h.1]
 exact h
theorem range_ino (a b : ByteArray) (l r : Tt) (q : Pr) : rangeL a b (Tt.nd l q r).ino = rangeL a b l.ino ++ (if !kl q.key a && kl q.key b then [q] else []) ++ rangeL a b r.ino := Tt.range_mid a b l.ino r.ino q
theorem range_sz (a b : ByteArray) (t : Tt) : (rangeL a b t.ino).length ≤ t.sz := by
 rw [← Tt.sz_ino]
 exact List.length_filter_le _ _
theorem gather_1 (a b : ByteArray) (l r : Tt) (q : Pr) (ihl : ∀ (A : Option Addr) (w : World) (base : Nat) (v : Value) (M : List Pr),Nd w l A → So prE 64 w base v M.length M → base ≤ w.heap.size → M.length + l.sz ≤ 90000 → Calls Tryz.prog 77 #[.pointer A,v,.string a,.string b] w (Gat (M ++ rangeL a b l.ino) base w)) (ihr : ∀ (A : Option Addr) (w : World) (base : Nat) (v : Value) (M : List Pr),Nd w r A → So prE 64 w base v M.length M → base ≤ w.heap.size → M.length + r.sz ≤ 90000 → Calls Tryz.prog 77 #[.pointer A,v,.string a,.string b] w (Gat (M ++ rangeL a b r.ino) base w)) (A : Option Addr) (w : World) (base : Nat) (v : Value) (M : List Pr) (h : Nd w (Tt.nd l q r) A) (ho : So prE 64 w base v M.length M) (hb : base ≤ w.heap.size) (hn : M.length + (Tt.nd l q r).sz ≤ 90000) (h1 : kl a q.key = true) (h3 : kl q.key b = true) (he : M ++ rangeL a b (Tt.nd l q r).ino = M ++ rangeL a b l.ino ++ [q] ++ rangeL a b r.ino) :
 Calls Tryz.prog 77 #[.pointer A,v,.string a,.string b] w (Gat (M ++ rangeL a b (Tt.nd l q r).ino) base w) := by
 have f1 : Op.bytesLess a.toList q.key.toList = true := h1
 have f3 : Op.bytesLess q.key.toList b.toList = true := h3
 clear h1 h3
 obtain ⟨g,C,D,rfl,hk,hl,hr⟩ := h
 have HK := hQ_ hk
 have HL := hQ_ hl
 have HR := hQ_ hr
 have HO := hQ_ ho
 have HIL := hQ_ ihl
 have HIR := hQ_ ihr
 have HE := hQ_ he
 have HN := hQ_ hn
 have sl := range_sz a b l
 obtain ⟨Rl,hRl⟩ : ∃ R,rangeL a b l.ino = R := ⟨_,rfl⟩
 obtain ⟨Rr,hRr⟩ : ∃ R,rangeL a b r.ino = R := ⟨_,rfl⟩
 obtain ⟨Z,hZ⟩ : ∃ Z,M ++ rangeL a b (Tt.nd l q r).ino = Z := ⟨_,rfl⟩
 rw [hZ] at HE ⊢
 rw [hRl] at HIL sl
 try rw [hRl] at HE
 rw [hRr] at HIR
 try rw [hRr] at HE
 simp only [Tt.sz] at hn
 clear hk hl hr ho ihl ihr he hRl hRr hZ
 have HB := hQ_ (Below.refl base w)
 have HKP := hQ_ (kept_refl w)
 have HBS := hQ_ hb
 have c0 := cZ0 HK.out
 have c3 := cZ3 HK.out
 have c4 := cZ4 HK.out
 go_enter Tryz.func77,Tryz.ntmps77
 go_wp2_with fail
 refine (HIL.out _ _ base _ M HL.out HO.out HBS.out (by have := HN.out; simp only [Tt.sz] at this; (try simp only [List.length_append,List.length_cons,List.length_nil]); omega)).mono ?_
 rintro e w3 ⟨v3,rfl,ho3,hb3,hk3,hs3⟩
 clear c0 c3 c4
 have HO2 := hQ_ ho3
 have HB2 := hQ_ (HB.out.trans hb3)
 have HKP2 := hQ_ (kept_trans HKP.out hk3)
 have HBS2 := hQ_ hs3
 have HK2 : Hid (Blk w3 g (ndC q C D (Tt.nd l q r).sz (Tt.nd l q r).ht) 125) := hQ_ (hk3 _ _ _ _ (.inr rfl) HK.out)
 have HL2 := hQ_ (HL.out.keep hk3)
 have HR2 := hQ_ (HR.out.keep hk3)
 clear ho3 hb3 hk3 hs3 HO HB HKP HBS HK HL HR
 have HO := HO2
 have HB := HB2
 have HKP := HKP2
 have HBS := HBS2
 have HK := HK2
 have HL := HL2
 have HR := HR2
 clear HO2 HB2 HKP2 HBS2 HK2 HL2 HR2
 have c0 := cZ0 HK.out
 have c3 := cZ3 HK.out
 have c4 := cZ4 HK.out
 have c1 := cZ1 HK.out
 have c2 := cZ2 HK.out
 go_wp2_with ((with_reducible refine pick (some 43) ?_); refine wpList_append_lst prE 64 rfl _ _ _ rfl Tryz.underlying61 info_pair rfl base v3 _ (M ++ Rl) rfl (HO.out.below (bW_)) w3.heap.size 0 1 1 [q] rfl (Sl.new_ prE w3 _ q _ rfl) _ rfl ((M ++ Rl) ++ [q]) rfl (by unfold maxLen; have := HN.out; simp only [Tt.sz] at this; (try simp only [List.length_append,List.length_cons,List.length_nil]); omega) (by have := HN.out; simp only [Tt.sz] at this; (try simp only [List.length_append,List.length_cons,List.length_nil]); omega) (by have := HBS.out; simp; omega) ?_; intro v4 w4 ho4 hg4 _ _; clear c0 c1 c2 c3 c4; have hs4 : base ≤ w4.heap.size := Nat.le_trans HBS.out (Nat.le_trans (by simp) hg4.size); have hk4 : Kept w3 w4 := kept_trans (kept_alloc (kept_refl _) _) (Kept.of_grown (HO.out.below (bW_)) hg4 (by decide)); have hb4 : Below base w3 w4 := ((Below.refl _ _).alloc HBS.out _).grown hg4 (by have := HBS.out; simp; omega) (fun x hx => (HO.out.lt hx).1); have ho4b := own_of ho4 rfl; clear ho4; have ho4 := ho4b; clear ho4b; have HO2 := hQ_ ho4; have HB2 := hQ_ (HB.out.trans hb4); have HKP2 := hQ_ (kept_trans HKP.out hk4); have HBS2 := hQ_ hs4; have HK2 : Hid (Blk w4 g (ndC q C D (Tt.nd l q r).sz (Tt.nd l q r).ht) 125) := hQ_ (hk4 _ _ _ _ (.inr rfl) HK.out); have HL2 := hQ_ (HL.out.keep hk4); have HR2 := hQ_ (HR.out.keep hk4); clear ho4 hb4 hk4 hs4 HO HB HKP HBS HK HL HR; have HO := HO2; have HB := HB2; have HKP := HKP2; have HBS := HBS2; have HK := HK2; have HL := HL2; have HR := HR2; clear HO2 HB2 HKP2 HBS2 HK2 HL2 HR2; have c0 : w4.cell? ⟨g,0,none⟩ = some (.string q.key) := HK.out.cell 0; have c3 : w4.cell? ⟨g,3,none⟩ = some (.pointer C) := HK.out.cell 3; have c4 : w4.cell? ⟨g,4,none⟩ = some (.pointer D) := HK.out.cell 4)
 go_wp2_with fail
 refine (HIR.out _ _ base _ ((M ++ Rl) ++ [q]) HR.out HO.out HBS.out (by have := HN.out; simp only [Tt.sz] at this; (try simp only [List.length_append,List.length_cons,List.length_nil]); omega)).mono ?_
 rintro e w5 ⟨v5,rfl,ho5,hb5,hk5,hs5⟩
 clear c0 c3 c4
 have HO2 := hQ_ ho5
 have HB2 := hQ_ (HB.out.trans hb5)
 have HKP2 := hQ_ (kept_trans HKP.out hk5)
 have HBS2 := hQ_ hs5
 have HK2 : Hid (Blk w5 g (ndC q C D (Tt.nd l q r).sz (Tt.nd l q r).ht) 125) := hQ_ (hk5 _ _ _ _ (.inr rfl) HK.out)
 have HL2 := hQ_ (HL.out.keep hk5)
 have HR2 := hQ_ (HR.out.keep hk5)
 clear ho5 hb5 hk5 hs5 HO HB HKP HBS HK HL HR
 have HO := HO2
 have HB := HB2
 have HKP := HKP2
 have HBS := HBS2
 have HK := HK2
 have HL := HL2
 have HR := HR2
 clear HO2 HB2 HKP2 HBS2 HK2 HL2 HR2
 have c0 := cZ0 HK.out
 have c3 := cZ3 HK.out
 have c4 := cZ4 HK.out
 go_wp2_with fail
 go_ret
 exact ⟨_,rfl,by rw [HE.out]; exact own_of HO.out (by simp),HB.out,HKP.out,HBS.out⟩
theorem gather_2 (a b : ByteArray) (l r : Tt) (q : Pr) (ihl : ∀ (A : Option Addr) (w : World) (base : Nat) (v : Value) (M : List Pr),Nd w l A → So prE 64 w base v M.length M → base ≤ w.heap.size → M.length + l.sz ≤ 90000 → Calls Tryz.prog 77 #[.pointer A,v,.string a,.string b] w (Gat (M ++ rangeL a b l.ino) base w)) (ihr : ∀ (A : Option Addr) (w : World) (base : Nat) (v : Value) (M : List Pr),Nd w r A → So prE 64 w base v M.length M → base ≤ w.heap.size → M.length + r.sz ≤ 90000 → Calls Tryz.prog 77 #[.pointer A,v,.string a,.string b] w (Gat (M ++ rangeL a b r.ino) base w)) (A : Option Addr) (w : World) (base : Nat) (v : Value) (M : List Pr) (h : Nd w (Tt.nd l q r) A) (ho : So prE 64 w base v M.length M) (hb : base ≤ w.heap.size) (hn : M.length + (Tt.nd l q r).sz ≤ 90000) (h1 : kl a q.key = true) (h3 : kl q.key b = false) (he : M ++ rangeL a b (Tt.nd l q r).ino = M ++ rangeL a b l.ino) :
 Calls Tryz.prog 77 #[.pointer A,v,.string a,.string b] w (Gat (M ++ rangeL a b (Tt.nd l q r).ino) base w) := by
 have f1 : Op.bytesLess a.toList q.key.toList = true := h1
 have f3 : Op.bytesLess q.key.toList b.toList = false := h3
 clear h1 h3
 obtain ⟨g,C,D,rfl,hk,hl,hr⟩ := h
 have HK := hQ_ hk
 have HL := hQ_ hl
 have HR := hQ_ hr
 have HO := hQ_ ho
 have HIL := hQ_ ihl
 have HE := hQ_ he
 have HN := hQ_ hn
 have sl := range_sz a b l
 obtain ⟨Rl,hRl⟩ : ∃ R,rangeL a b l.ino = R := ⟨_,rfl⟩
 obtain ⟨Rr,hRr⟩ : ∃ R,rangeL a b r.ino = R := ⟨_,rfl⟩
 obtain ⟨Z,hZ⟩ : ∃ Z,M ++ rangeL a b (Tt.nd l q r).ino = Z := ⟨_,rfl⟩
 rw [hZ] at HE ⊢
 rw [hRl] at HIL sl
 try rw [hRl] at HE
 try rw [hRr] at HE
 simp only [Tt.sz] at hn
 clear hk hl hr ho ihl ihr he hRl hRr hZ
 have HB := hQ_ (Below.refl base w)
 have HKP := hQ_ (kept_refl w)
 have HBS := hQ_ hb
 have c0 := cZ0 HK.out
 have c3 := cZ3 HK.out
 have c4 := cZ4 HK.out
 go_enter Tryz.func77,Tryz.ntmps77
 go_wp2_with fail
 refine (HIL.out _ _ base _ M HL.out HO.out HBS.out (by have := HN.out; simp only [Tt.sz] at this; (try simp only [List.length_append,List.length_cons,List.length_nil]); omega)).mono ?_
 rintro e w3 ⟨v3,rfl,ho3,hb3,hk3,hs3⟩
 clear c0 c3 c4
 have HO2 := hQ_ ho3
 have HB2 := hQ_ (HB.out.trans hb3)
 have HKP2 := hQ_ (kept_trans HKP.out hk3)
 have HBS2 := hQ_ hs3
 have HK2 : Hid (Blk w3 g (ndC q C D (Tt.nd l q r).sz (Tt.nd l q r).ht) 125) := hQ_ (hk3 _ _ _ _ (.inr rfl) HK.out)
 have HL2 := hQ_ (HL.out.keep hk3)
 have HR2 := hQ_ (HR.out.keep hk3)
 clear ho3 hb3 hk3 hs3 HO HB HKP HBS HK HL HR
 have HO := HO2
 have HB := HB2
 have HKP := HKP2
 have HBS := HBS2
 have HK := HK2
 have HL := HL2
 have HR := HR2
 clear HO2 HB2 HKP2 HBS2 HK2 HL2 HR2
 have c0 := cZ0 HK.out
 have c3 := cZ3 HK.out
 have c4 := cZ4 HK.out
 go_wp2_with fail
 go_ret
 exact ⟨_,rfl,by rw [HE.out]; exact own_of HO.out (by simp),HB.out,HKP.out,HBS.out⟩
theorem gather_3 (a b : ByteArray) (l r : Tt) (q : Pr) (ihl : ∀ (A : Option Addr) (w : World) (base : Nat) (v : Value) (M : List Pr),Nd w l A → So prE 64 w base v M.length M → base ≤ w.heap.size → M.length + l.sz ≤ 90000 → Calls Tryz.prog 77 #[.pointer A,v,.string a,.string b] w (Gat (M ++ rangeL a b l.ino) base w)) (ihr : ∀ (A : Option Addr) (w : World) (base : Nat) (v : Value) (M : List Pr),Nd w r A → So prE 64 w base v M.length M → base ≤ w.heap.size → M.length + r.sz ≤ 90000 → Calls Tryz.prog 77 #[.pointer A,v,.string a,.string b] w (Gat (M ++ rangeL a b r.ino) base w)) (A : Option Addr) (w : World) (base : Nat) (v : Value) (M : List Pr) (h : Nd w (Tt.nd l q r) A) (ho : So prE 64 w base v M.length M) (hb : base ≤ w.heap.size) (hn : M.length + (Tt.nd l q r).sz ≤ 90000) (h1 : kl a q.key = false) (h2 : decide (a = q.key) = true) (h3 : kl q.key b = true) (he : M ++ rangeL a b (Tt.nd l q r).ino = M ++ [q] ++ rangeL a b r.ino) :
 Calls Tryz.prog 77 #[.pointer A,v,.string a,.string b] w (Gat (M ++ rangeL a b (Tt.nd l q r).ino) base w) := by
 have f1 : Op.bytesLess a.toList q.key.toList = false := h1
 have f2 : (a.toList == q.key.toList) = true := by rw [eq_list]; exact h2
 have f3 : Op.bytesLess q.key.toList b.toList = true := h3
 clear h1 h2 h3
 obtain ⟨g,C,D,rfl,hk,hl,hr⟩ := h
 have HK := hQ_ hk
 have HL := hQ_ hl
 have HR := hQ_ hr
 have HO := hQ_ ho
 have HIL := hQ_ ihl
 have HIR := hQ_ ihr
 have HE := hQ_ he
 have HN := hQ_ hn
 have sl := range_sz a b l
 obtain ⟨Rl,hRl⟩ : ∃ R,rangeL a b l.ino = R := ⟨_,rfl⟩
 obtain ⟨Rr,hRr⟩ : ∃ R,rangeL a b r.ino = R := ⟨_,rfl⟩
 obtain ⟨Z,hZ⟩ : ∃ Z,M ++ rangeL a b (Tt.nd l q r).ino = Z := ⟨_,rfl⟩
 rw [hZ] at HE ⊢
 rw [hRl] at HIL sl
 try rw [hRl] at HE
 rw [hRr] at HIR
 try rw [hRr] at HE
 simp only [Tt.sz] at hn
 clear hk hl hr ho ihl ihr he hRl hRr hZ
 have HB := hQ_ (Below.refl base w)
 have HKP := hQ_ (kept_refl w)
 have HBS := hQ_ hb
 have c0 := cZ0 HK.out
 have c3 := cZ3 HK.out
 have c4 := cZ4 HK.out
 go_enter Tryz.func77,Tryz.ntmps77
 have c1 := cZ1 HK.out
 have c2 := cZ2 HK.out
 go_wp2_with ((with_reducible refine pick (some 43) ?_); refine wpList_append_lst prE 64 rfl _ _ _ rfl Tryz.underlying61 info_pair rfl base v _ M rfl (HO.out.below (bW_)) w.heap.size 0 1 1 [q] rfl (Sl.new_ prE w _ q _ rfl) _ rfl (M ++ [q]) rfl (by unfold maxLen; have := HN.out; simp only [Tt.sz] at this; (try simp only [List.length_append,List.length_cons,List.length_nil]); omega) (by have := HN.out; simp only [Tt.sz] at this; (try simp only [List.length_append,List.length_cons,List.length_nil]); omega) (by have := HBS.out; simp; omega) ?_; intro v4 w4 ho4 hg4 _ _; clear c0 c1 c2 c3 c4; have hs4 : base ≤ w4.heap.size := Nat.le_trans HBS.out (Nat.le_trans (by simp) hg4.size); have hk4 : Kept w w4 := kept_trans (kept_alloc (kept_refl _) _) (Kept.of_grown (HO.out.below (bW_)) hg4 (by decide)); have hb4 : Below base w w4 := ((Below.refl _ _).alloc HBS.out _).grown hg4 (by have := HBS.out; simp; omega) (fun x hx => (HO.out.lt hx).1); have ho4b := own_of ho4 rfl; clear ho4; have ho4 := ho4b; clear ho4b; have HO2 := hQ_ ho4; have HB2 := hQ_ (HB.out.trans hb4); have HKP2 := hQ_ (kept_trans HKP.out hk4); have HBS2 := hQ_ hs4; have HK2 : Hid (Blk w4 g (ndC q C D (Tt.nd l q r).sz (Tt.nd l q r).ht) 125) := hQ_ (hk4 _ _ _ _ (.inr rfl) HK.out); have HL2 := hQ_ (HL.out.keep hk4); have HR2 := hQ_ (HR.out.keep hk4); clear ho4 hb4 hk4 hs4 HO HB HKP HBS HK HL HR; have HO := HO2; have HB := HB2; have HKP := HKP2; have HBS := HBS2; have HK := HK2; have HL := HL2; have HR := HR2; clear HO2 HB2 HKP2 HBS2 HK2 HL2 HR2; have c0 : w4.cell? ⟨g,0,none⟩ = some (.string q.key) := HK.out.cell 0; have c3 : w4.cell? ⟨g,3,none⟩ = some (.pointer C) := HK.out.cell 3; have c4 : w4.cell? ⟨g,4,none⟩ = some (.pointer D) := HK.out.cell 4)
 go_wp2_with fail
 refine (HIR.out _ _ base _ (M ++ [q]) HR.out HO.out HBS.out (by have := HN.out; simp only [Tt.sz] at this; (try simp only [List.length_append,List.length_cons,List.length_nil]); omega)).mono ?_
 rintro e w5 ⟨v5,rfl,ho5,hb5,hk5,hs5⟩
 clear c0 c3 c4
 have HO2 := hQ_ ho5
 have HB2 := hQ_ (HB.out.trans hb5)
 have HKP2 := hQ_ (kept_trans HKP.out hk5)
 have HBS2 := hQ_ hs5
 have HK2 : Hid (Blk w5 g (ndC q C D (Tt.nd l q r).sz (Tt.nd l q r).ht) 125) := hQ_ (hk5 _ _ _ _ (.inr rfl) HK.out)
 have HL2 := hQ_ (HL.out.keep hk5)
 have HR2 := hQ_ (HR.out.keep hk5)
 clear ho5 hb5 hk5 hs5 HO HB HKP HBS HK HL HR
 have HO := HO2
 have HB := HB2
 have HKP := HKP2
 have HBS := HBS2
 have HK := HK2
 have HL := HL2
 have HR := HR2
 clear HO2 HB2 HKP2 HBS2 HK2 HL2 HR2
 have c0 := cZ0 HK.out
 have c3 := cZ3 HK.out
 have c4 := cZ4 HK.out
 go_wp2_with fail
 go_ret
 exact ⟨_,rfl,by rw [HE.out]; exact own_of HO.out (by simp),HB.out,HKP.out,HBS.out⟩
theorem gather_4 (a b : ByteArray) (l r : Tt) (q : Pr) (ihl : ∀ (A : Option Addr) (w : World) (base : Nat) (v : Value) (M : List Pr),Nd w l A → So prE 64 w base v M.length M → base ≤ w.heap.size → M.length + l.sz ≤ 90000 → Calls Tryz.prog 77 #[.pointer A,v,.string a,.string b] w (Gat (M ++ rangeL a b l.ino) base w)) (ihr : ∀ (A : Option Addr) (w : World) (base : Nat) (v : Value) (M : List Pr),Nd w r A → So prE 64 w base v M.length M → base ≤ w.heap.size → M.length + r.sz ≤ 90000 → Calls Tryz.prog 77 #[.pointer A,v,.string a,.string b] w (Gat (M ++ rangeL a b r.ino) base w)) (A : Option Addr) (w : World) (base : Nat) (v : Value) (M : List Pr) (h : Nd w (Tt.nd l q r) A) (ho : So prE 64 w base v M.length M) (hb : base ≤ w.heap.size) (hn : M.length + (Tt.nd l q r).sz ≤ 90000) (h1 : kl a q.key = false) (h2 : decide (a = q.key) = true) (h3 : kl q.key b = false) (he : M ++ rangeL a b (Tt.nd l q r).ino = M) :
 Calls Tryz.prog 77 #[.pointer A,v,.string a,.string b] w (Gat (M ++ rangeL a b (Tt.nd l q r).ino) base w) := by
 have f1 : Op.bytesLess a.toList q.key.toList = false := h1
 have f2 : (a.toList == q.key.toList) = true := by rw [eq_list]; exact h2
 have f3 : Op.bytesLess q.key.toList b.toList = false := h3
 clear h1 h2 h3
 obtain ⟨g,C,D,rfl,hk,hl,hr⟩ := h
 have HK := hQ_ hk
 have HO := hQ_ ho
 have HIL := hQ_ ihl
 have HE := hQ_ he
 have sl := range_sz a b l
 obtain ⟨Rl,hRl⟩ : ∃ R,rangeL a b l.ino = R := ⟨_,rfl⟩
 obtain ⟨Rr,hRr⟩ : ∃ R,rangeL a b r.ino = R := ⟨_,rfl⟩
 obtain ⟨Z,hZ⟩ : ∃ Z,M ++ rangeL a b (Tt.nd l q r).ino = Z := ⟨_,rfl⟩
 rw [hZ] at HE ⊢
 rw [hRl] at HIL sl
 try rw [hRl] at HE
 try rw [hRr] at HE
 simp only [Tt.sz] at hn
 clear hk hl hr ho ihl ihr he hRl hRr hZ
 have HB := hQ_ (Below.refl base w)
 have HKP := hQ_ (kept_refl w)
 have HBS := hQ_ hb
 have c0 := cZ0 HK.out
 have c3 := cZ3 HK.out
 have c4 := cZ4 HK.out
 go_enter Tryz.func77,Tryz.ntmps77
 go_wp2_with fail
 go_ret
 exact ⟨_,rfl,by rw [HE.out]; exact own_of HO.out (by simp),HB.out,HKP.out,HBS.out⟩
theorem gather_5 (a b : ByteArray) (l r : Tt) (q : Pr) (ihl : ∀ (A : Option Addr) (w : World) (base : Nat) (v : Value) (M : List Pr),Nd w l A → So prE 64 w base v M.length M → base ≤ w.heap.size → M.length + l.sz ≤ 90000 → Calls Tryz.prog 77 #[.pointer A,v,.string a,.string b] w (Gat (M ++ rangeL a b l.ino) base w)) (ihr : ∀ (A : Option Addr) (w : World) (base : Nat) (v : Value) (M : List Pr),Nd w r A → So prE 64 w base v M.length M → base ≤ w.heap.size → M.length + r.sz ≤ 90000 → Calls Tryz.prog 77 #[.pointer A,v,.string a,.string b] w (Gat (M ++ rangeL a b r.ino) base w)) (A : Option Addr) (w : World) (base : Nat) (v : Value) (M : List Pr) (h : Nd w (Tt.nd l q r) A) (ho : So prE 64 w base v M.length M) (hb : base ≤ w.heap.size) (hn : M.length + (Tt.nd l q r).sz ≤ 90000) (h1 : kl a q.key = false) (h2 : decide (a = q.key) = false) (h3 : kl q.key b = true) (he : M ++ rangeL a b (Tt.nd l q r).ino = M ++ rangeL a b r.ino) :
 Calls Tryz.prog 77 #[.pointer A,v,.string a,.string b] w (Gat (M ++ rangeL a b (Tt.nd l q r).ino) base w) := by
 have f1 : Op.bytesLess a.toList q.key.toList = false := h1
 have f2 : (a.toList == q.key.toList) = false := by rw [eq_list]; exact h2
 have f3 : Op.bytesLess q.key.toList b.toList = true := h3
 clear h1 h2 h3
 obtain ⟨g,C,D,rfl,hk,hl,hr⟩ := h
 have HK := hQ_ hk
 have HL := hQ_ hl
 have HR := hQ_ hr
 have HO := hQ_ ho
 have HIL := hQ_ ihl
 have HIR := hQ_ ihr
 have HE := hQ_ he
 have HN := hQ_ hn
 have sl := range_sz a b l
 obtain ⟨Rl,hRl⟩ : ∃ R,rangeL a b l.ino = R := ⟨_,rfl⟩
 obtain ⟨Rr,hRr⟩ : ∃ R,rangeL a b r.ino = R := ⟨_,rfl⟩
 obtain ⟨Z,hZ⟩ : ∃ Z,M ++ rangeL a b (Tt.nd l q r).ino = Z := ⟨_,rfl⟩
 rw [hZ] at HE ⊢
 rw [hRl] at HIL sl
 try rw [hRl] at HE
 rw [hRr] at HIR
 try rw [hRr] at HE
 simp only [Tt.sz] at hn
 clear hk hl hr ho ihl ihr he hRl hRr hZ
 have HB := hQ_ (Below.refl base w)
 have HKP := hQ_ (kept_refl w)
 have HBS := hQ_ hb
 have c0 := cZ0 HK.out
 have c3 := cZ3 HK.out
 have c4 := cZ4 HK.out
 go_enter Tryz.func77,Tryz.ntmps77
 go_wp2_with fail
 refine (HIR.out _ _ base _ M HR.out HO.out HBS.out (by have := HN.out; simp only [Tt.sz] at this; (try simp only [List.length_append,List.length_cons,List.length_nil]); omega)).mono ?_
 rintro e w5 ⟨v5,rfl,ho5,hb5,hk5,hs5⟩
 clear c0 c3 c4
 have HO2 := hQ_ ho5
 have HB2 := hQ_ (HB.out.trans hb5)
 have HKP2 := hQ_ (kept_trans HKP.out hk5)
 have HBS2 := hQ_ hs5
 have HK2 : Hid (Blk w5 g (ndC q C D (Tt.nd l q r).sz (Tt.nd l q r).ht) 125) := hQ_ (hk5 _ _ _ _ (.inr rfl) HK.out)
 have HL2 := hQ_ (HL.out.keep hk5)
 have HR2 := hQ_ (HR.out.keep hk5)
 clear ho5 hb5 hk5 hs5 HO HB HKP HBS HK HL HR
 have HO := HO2
 have HB := HB2
 have HKP := HKP2
 have HBS := HBS2
 have HK := HK2
 have HL := HL2
 have HR := HR2
 clear HO2 HB2 HKP2 HBS2 HK2 HL2 HR2
 have c0 := cZ0 HK.out
 have c3 := cZ3 HK.out
 have c4 := cZ4 HK.out
 go_wp2_with fail
 go_ret
 exact ⟨_,rfl,by rw [HE.out]; exact own_of HO.out (by simp),HB.out,HKP.out,HBS.out⟩
theorem gather_6 (a b : ByteArray) (l r : Tt) (q : Pr) (ihl : ∀ (A : Option Addr) (w : World) (base : Nat) (v : Value) (M : List Pr),Nd w l A → So prE 64 w base v M.length M → base ≤ w.heap.size → M.length + l.sz ≤ 90000 → Calls Tryz.prog 77 #[.pointer A,v,.string a,.string b] w (Gat (M ++ rangeL a b l.ino) base w)) (ihr : ∀ (A : Option Addr) (w : World) (base : Nat) (v : Value) (M : List Pr),Nd w r A → So prE 64 w base v M.length M → base ≤ w.heap.size → M.length + r.sz ≤ 90000 → Calls Tryz.prog 77 #[.pointer A,v,.string a,.string b] w (Gat (M ++ rangeL a b r.ino) base w)) (A : Option Addr) (w : World) (base : Nat) (v : Value) (M : List Pr) (h : Nd w (Tt.nd l q r) A) (ho : So prE 64 w base v M.length M) (hb : base ≤ w.heap.size) (hn : M.length + (Tt.nd l q r).sz ≤ 90000) (h1 : kl a q.key = false) (h2 : decide (a = q.key) = false) (h3 : kl q.key b = false) (he : M ++ rangeL a b (Tt.nd l q r).ino = M) :
 Calls Tryz.prog 77 #[.pointer A,v,.string a,.string b] w (Gat (M ++ rangeL a b (Tt.nd l q r).ino) base w) := by
 have f1 : Op.bytesLess a.toList q.key.toList = false := h1
 have f2 : (a.toList == q.key.toList) = false := by rw [eq_list]; exact h2
 have f3 : Op.bytesLess q.key.toList b.toList = false := h3
 clear h1 h2 h3
 obtain ⟨g,C,D,rfl,hk,hl,hr⟩ := h
 have HK := hQ_ hk
 have HO := hQ_ ho
 have HIL := hQ_ ihl
 have HE := hQ_ he
 have sl := range_sz a b l
 obtain ⟨Rl,hRl⟩ : ∃ R,rangeL a b l.ino = R := ⟨_,rfl⟩
 obtain ⟨Rr,hRr⟩ : ∃ R,rangeL a b r.ino = R := ⟨_,rfl⟩
 obtain ⟨Z,hZ⟩ : ∃ Z,M ++ rangeL a b (Tt.nd l q r).ino = Z := ⟨_,rfl⟩
 rw [hZ] at HE ⊢
 rw [hRl] at HIL sl
 try rw [hRl] at HE
 try rw [hRr] at HE
 simp only [Tt.sz] at hn
 clear hk hl hr ho ihl ihr he hRl hRr hZ
 have HB := hQ_ (Below.refl base w)
 have HKP := hQ_ (kept_refl w)
 have HBS := hQ_ hb
 have c0 := cZ0 HK.out
 have c3 := cZ3 HK.out
 have c4 := cZ4 HK.out
 go_enter Tryz.func77,Tryz.ntmps77
 go_wp2_with fail
 go_ret
 exact ⟨_,rfl,by rw [HE.out]; exact own_of HO.out (by simp),HB.out,HKP.out,HBS.out⟩
theorem gather_calls (a b : ByteArray) (t : Tt) : ∀ (A : Option Addr) (w : World) (base : Nat) (v : Value) (M : List Pr),Rise t.ino → Nd w t A → So prE 64 w base v M.length M → base ≤ w.heap.size → M.length + t.sz ≤ 90000 → Calls Tryz.prog 77 #[.pointer A,v,.string a,.string b] w (Gat (M ++ rangeL a b t.ino) base w) := by
 induction t with
 | no =>
   intro A w base v M _ h ho hb hn
   obtain rfl : A = none := h
   have HO := hQ_ ho
   have HBS := hQ_ hb
   clear ho hb
   rw [show M ++ rangeL a b Tt.no.ino = M from List.append_nil M]
   go_enter Tryz.func77,Tryz.ntmps77
   go_wp2_with fail
   go_ret
   exact ⟨_,rfl,HO.out,Below.refl _ _,kept_refl _,HBS.out⟩
 | nd l q r ihl ihr =>
   intro A w base v M hri h ho hb hn
   have hri2 : Rise (l.ino ++ q :: r.ino) := hri
   have hm := Tt.rise_mid hri2
   have jl := fun A w base v M => ihl A w base v M hm.1
   have jr := fun A w base v M => ihr A w base v M hm.2.1
   have e := range_ino a b l r q
   cases h1 : kl a q.key with
   | true =>
     have h4 : kl q.key a = false := kl_asym h1
     cases h3 : kl q.key b with
     | true => exact gather_1 a b l r q jl jr A w base v M h ho hb hn h1 h3 (by rw [e,h4,h3]; simp)
     | false => exact gather_2 a b l r q jl jr A w base v M h ho hb hn h1 h3 (by rw [e,h4,h3,Tt.range_high hri2 h3]; simp)
   | false =>
     have e1 := Tt.range_low (b := b) hri2 h1
     by_cases h2 : a = q.key
     ·have h4 : kl q.key a = false := by rw [h2]; exact kl_irr _
      cases h3 : kl q.key b with
      | true => exact gather_3 a b l r q jl jr A w base v M h ho hb hn h1 (decide_eq_true h2) h3 (by rw [e,e1,h4,h3]; simp)
      | false => exact gather_4 a b l r q jl jr A w base v M h ho hb hn h1 (decide_eq_true h2) h3 (by rw [e,e1,h4,h3,Tt.range_high hri2 h3]; simp)
     ·have h4 : kl q.key a = true := by
       cases h5 : kl q.key a with
       | true => rfl
       | false => exact absurd (kl_tri h1 h5) h2
      cases h3 : kl q.key b with
      | true => exact gather_5 a b l r q jl jr A w base v M h ho hb hn h1 (decide_eq_false h2) h3 (by rw [e,e1,h4]; simp)
      | false => exact gather_6 a b l r q jl jr A w base v M h ho hb hn h1 (decide_eq_false h2) h3 (by rw [e,e1,h4,Tt.range_high hri2 h3]; simp)
end Go.Proofs.YtogdjbhjgbnicaaGreatDoor.TreeJ