import Derived.Test.YtlblfpacnegmlaaSq
import Derived.Test.YtlblfpacnegmlaaClashHa
import Derived.Test.YtlblfpacnegmlaaHo
set_option maxHeartbeats 16000000
set_option linter.unusedVariables false
set_option linter.unusedSimpArgs false
set_option maxRecDepth 100000
namespace Go.Proofs.Ytlblfpacnegmlaa.ClashHb
open Go.RowKit
open Byte KeysM TreeM ViewM ClashM ClashKm Lst Chg Ho TreeR TreeL ViewR ViewL Nest ClashL ClashC ClashQ ClashKb ClashKd ClashH ClashHa
open Tx (txE)
open Own
section
variable {w : World} {b : Nat} {v : Value} {n : Nat} {hs : List Hd} {l : List (List Pr)} {g : Nat}
theorem kept_calls (N : Nat) (h : HC w b v n hs l g) (hl : l.length ≤ 301) (hN : N ≤ 18446744073709551615) : Calls Try.prog 26 #[.pointer (some ⟨b,0,none⟩),.int .u64 N] w fun e w' => e = .returned (.int .i64 ((forgetM g l.length N - g : Nat) : Int)) ∧ Below w.heap.size w w' := by
 have hgl : g ≤ l.length := by have := h.len; omega
 have HNW := hQ_ (fun (u : World) (hb : Below w.heap.size w u) => now_calls (h.below hb) hl)
 have RD : Hid (∀ q0,Below w.heap.size w q0 → Below w.heap.size w q0 ∧ q0.cell? ⟨b,1,none⟩ = some (.int .u64 (g : Int))) := hQ_ (fun q0 hb => ⟨hb,(h.below hb).blk.cell 1⟩)
 obtain ⟨m,hm⟩ : ∃ m,l.length = m := ⟨_,rfl⟩
 rw [hm] at hgl hl HNW ⊢
 obtain ⟨K,hK⟩ : ∃ K : Nat,forgetM g m N - g = K := ⟨_,rfl⟩
 have hk : min (max (N : Int) (g : Int)) (m : Int) - (g : Int) = (K : Int) := by rw [← hK]; unfold forgetM; omega
 have hkb : K ≤ 301 := by rw [← hK]; unfold forgetM; omega
 rw [hK]
 have e1 : IntKind.u64.wrap (K : Int) = K := by unfold IntKind.wrap; simp [IntKind.bits,IntKind.signed]; omega
 have e2 : IntKind.i64.wrap (K : Int) = K := IntWalk.i64_in _ ⟨by omega,by omega⟩
 clear hK hm h
 go_enter Try.func26,Try.ntmps26
 go_wp2_with fail
 refine wp_region_held_drew (S := fun q0 => Below w.heap.size w q0 ∧ q0.cell? ⟨b,1,none⟩ = some (.int .u64 (g : Int))) (by kernel_rfl) (RD.out _ (Below.refl _ _).drew) (fun hHeld => ?_)
 refine hw_ 0 (some 5) ?_
 refine hw_ 1 (some 6) ?_
 refine hw_ 2 (some 7) ?_
 refine hw_ 3 (some 8) ?_
 refine hw_ 4 (some 9) ?_
 refine hw_ 5 (some 10) ?_
 refine hw_ 6 (some 11) ?_
 refine hw_ 9 (some 14) ?_
 refine hw_ 10 (some 15) ?_
 refine hw_ 11 (some 16) ?_
 refine hw_ 12 (some 17) ?_
 refine ho_step 7 (some 12) rfl rfl (by kernel_rfl) (by kernel_rfl) (fun K hK => ?_)
 go_simp
 go_at_call 17
 refine (HNW.out _ hHeld.1).mono ?_
 rintro e w9 ⟨rfl,q9,rfl⟩
 try go_wp2_with fail
 refine hK.out _ _ (RD.out _ (below_drewN (Below.refl _ _) _)) (fun hHeld2 => ?_)
 clear hHeld
 have hHeld := hHeld2
 clear hHeld2
 clear hK K
 try simp only [pZ_]
 refine hw_ 8 (some 13) ?_
 refine hw_ 13 (some 18) ?_
 refine hw_ 14 (some 19) ?_
 refine hw_ 15 (some 4) ?_
 refine wpAnyH_done (by kernel_rfl) ?_ _
 have HB9 := hQ_ hHeld.1
 clear hHeld
 go_wp2_with fail
 go_ret
 exact ⟨rfl,HB9.out⟩
end
theorem one_tx (p1 p2 : Nat) (A B X : Option Addr) (n c m c2 kn kc : Nat) (R : List ByteArray) (G : List (ByteArray × ByteArray)) (K : List ByteArray) (w : World) (hc1 : w.cell? ⟨p1,0,none⟩ = some (.slice A n c)) (hc2 : w.cell? ⟨p2,0,none⟩ = some (.slice B m c2)) (hp1 : p1 < w.heap.size) (hp2 : p2 < w.heap.size) (hr : Sl txE w A n R) (hg : Sl rgE w B m G) (hk : Sl txE w X kn K) (hup : Up K) (hn : n ≤ 100000) (hm : m ≤ 100000) (hkn : kn ≤ 100000) (hsz : ∀ t ∈ R,t.size ≤ 140737488351232) :
 Calls Try.prog 28 #[.slice X kn kc,.pointer (some ⟨p1,0,none⟩),.pointer (some ⟨p2,0,none⟩)] w fun e w' => e = .returned (.bool (touchB R G (amongB K))) ∧ Below w.heap.size w w' := by
 have RD : Hid (∀ q0,Below w.heap.size w q0 → Below w.heap.size w q0 ∧ q0.cell? ⟨p1,0,none⟩ = some (.slice A n c) ∧ q0.cell? ⟨p2,0,none⟩ = some (.slice B m c2)) := hQ_ (fun q0 hb => ⟨hb,(hb.cell (p := ⟨p1,0,none⟩) hp1).trans hc1,(hb.cell (p := ⟨p2,0,none⟩) hp2).trans hc2⟩)
 have HAM := hQ_ (fun (u : World) (hb : Below w.heap.size w u) => among_calls X kn kc K u (hk.below hb) hup)
 have HTT := hQ_ (fun (u : World) (q : Nat) (hb : Below w.heap.size w u) (ham : Am u q X kn kc K) => touched_calls A B n c m c2 R G 36 #[.pointer (some ⟨q,0,none⟩)] (amongB K) u (hr.below hb) (hg.below hb) hn hm hsz (amt_tel ham hkn) ent_am)
 clear hc1 hc2 hr hg hk hup hsz
 go_enter Try.func28,Try.ntmps28
 go_wp2_with fail
 refine wp_region_held_drew (S := fun q0 => Below w.heap.size w q0 ∧ q0.cell? ⟨p1,0,none⟩ = some (.slice A n c) ∧ q0.cell? ⟨p2,0,none⟩ = some (.slice B m c2)) (by kernel_rfl) (RD.out _ (Below.refl _ _).drew) (fun hHeld => ?_)
 refine hw_ 0 (some 5) ?_
 refine hw_ 1 (some 6) ?_
 refine hw_ 2 (some 7) ?_
 refine ho_step 3 (some 8) rfl rfl (by kernel_rfl) (by kernel_rfl) (fun K hK => ?_)
 go_simp
 go_at_call 20
 refine (HAM.out _ hHeld.1).mono ?_
 rintro e w8 ⟨g8,rfl,ham8,hb8⟩
 have HT8 := hQ_ (HTT.out _ _ (Own.keeps hHeld.1 hb8) ham8)
 clear ham8
 try go_wp2_with fail
 refine hK.out _ _ (RD.out _ (Own.keeps hHeld.1 hb8)) (fun hHeld2 => ?_)
 clear hHeld
 have hHeld := hHeld2
 clear hHeld2
 clear hK K
 try simp only [pZ_]
 refine ho_step 4 (some 9) rfl rfl (by kernel_rfl) (by kernel_rfl) (fun K hK => ?_)
 go_simp
 go_at_call 19
 refine HT8.out.mono ?_
 rintro e w9 ⟨rfl,hb9⟩
 try go_wp2_with fail
 refine hK.out _ _ (RD.out _ (Own.keeps hHeld.1 hb9)) (fun hHeld2 => ?_)
 clear hHeld
 have hHeld := hHeld2
 clear hHeld2
 clear hK K
 try simp only [pZ_]
 refine hw_ 5 (some 4) ?_
 refine wpAnyH_done (by kernel_rfl) ?_ _
 have HB9 := hQ_ hHeld.1
 clear hHeld
 go_wp2_with fail
 go_ret
 exact ⟨rfl,HB9.out⟩
theorem ent_tx : ∀ (args : Array Value) (w : World),(callFunc 28 args).run Try.prog w = .ok (.enter 28 args) w := fun args w => by kernel_rfl
theorem seen_at {R : List ByteArray} {G : List (ByteArray × ByteArray)} {l : List (List Pr)} {g N K n : Nat} (hg : g ≤ l.length) (hK : forgetM g l.length N - g = K) (hn : n + g = l.length) : (List.range (n - K)).any (fun j => clashM R G ((l.drop (g + K))[j]?.getD default)) = seenM R G l (max N g) := by
 have hlen : (l.drop (g + K)).length = n - K := by rw [List.length_drop]; omega
 rw [any_at (l.drop (g + K)) (clashM R G) hlen]
 by_cases h : N ≤ l.length
 ·have e : g + K = max N g := by rw [← hK]; unfold forgetM; omega
  rw [e]
  rfl
 ·have e : g + K = l.length := by rw [← hK]; unfold forgetM; omega
  rw [e,seen_none (by omega),List.drop_length]
  rfl
section
variable {w : World} {b : Nat} {v : Value} {n : Nat} {hs : List Hd} {l : List (List Pr)} {g : Nat}
theorem has_all (M N K p1 p2 : Nat) (hM : n - K = M) (A B X : Option Addr) (n1 c m c2 c4 : Nat) (R : List ByteArray) (G : List (ByteArray × ByteArray)) (h : HC w b v n hs l g) (hK : forgetM g l.length N - g = K) (hl : l.length ≤ 301) (hc1 : w.cell? ⟨p1,0,none⟩ = some (.slice A n1 c)) (hc2 : w.cell? ⟨p2,0,none⟩ = some (.slice B m c2)) (hp1 : p1 < w.heap.size) (hp2 : p2 < w.heap.size) (hr : Sl txE w A n1 R) (hg : Sl rgE w B m G) (hn : n1 ≤ 100000) (hm : m ≤ 100000) (hsz : ∀ t ∈ R,t.size ≤ 140737488351232) (hX : Sl hdE w X M (hs.drop K)) :
 Calls Try.prog 29 #[.slice X M c4,.func (.func 28) #[] #[.pointer (some ⟨p1,0,none⟩),.pointer (some ⟨p2,0,none⟩)]] w fun e w' => e = .returned (.bool (seenM R G l (max N g))) ∧ Below w.heap.size w w' := by
 rw [← seen_at (by have := h.len; omega) hK h.len,hM]
 refine has_hd _ _ X M c4 (hs.drop K) _ w hX (by have := h.len; omega) ent_tx (fun j x w' hx hb => ?_)
 rw [List.getElem?_drop] at hx
 obtain ⟨Ks,h1,h2,h3,W,h4,h5⟩ := h.keys _ _ hx
 rw [List.getElem?_drop,show g + K + j = g + (K + j) by omega,h4]
 show Calls _ _ _ _ (fun e w2 => e = .returned (.bool (clashM R G W)) ∧ _)
 rw [← swap (R := R) (G := G) h5]
 exact one_tx p1 p2 A B x.a n1 c m c2 x.n x.c R G Ks w' ((hb.cell (p := ⟨p1,0,none⟩) hp1).trans hc1) ((hb.cell (p := ⟨p2,0,none⟩) hp2).trans hc2) (Nat.lt_of_lt_of_le hp1 hb.size) (Nat.lt_of_lt_of_le hp2 hb.size) (hr.below hb) (hg.below hb) (h1.below hb) h2 hn hm h3 hsz
end
end Go.Proofs.Ytlblfpacnegmlaa.ClashHb