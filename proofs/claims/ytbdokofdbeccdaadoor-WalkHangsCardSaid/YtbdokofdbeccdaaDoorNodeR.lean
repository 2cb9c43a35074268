/- The contracts of the document's answer for layer 15. -/
import Derived.Test.YtbdokofdbeccdaaDoorNodeM
import Derived.Test.YtbdokofdbeccdaaDoorKeysS
import Derived.Test.YtbdokofdbeccdaaDoorOwn
namespace Go.Proofs.YtbdokofdbeccdaaDoor.NodeR
set_option linter.unusedVariables false
set_option linter.unusedSimpArgs false
open Go.RowKit
open Go.Proofs.YtbdokofdbeccdaaDoor.Byte Go.Proofs.YtbdokofdbeccdaaDoor.PackM Go.Proofs.YtbdokofdbeccdaaDoor.PackV Go.Proofs.YtbdokofdbeccdaaDoor.PackS Go.Proofs.YtbdokofdbeccdaaDoor.PackH Go.Proofs.YtbdokofdbeccdaaDoor.ConvS Go.Proofs.YtbdokofdbeccdaaDoor.KeysM Go.Proofs.YtbdokofdbeccdaaDoor.KeysR Go.Proofs.YtbdokofdbeccdaaDoor.KeysS Go.Proofs.YtbdokofdbeccdaaDoor.NodeM
open Go.Proofs.YtbdokofdbeccdaaDoor.Own hiding keeps

theorem nb_of (k l s p : Int) : (([k] ++ low (width 4) l) ++ low (width 4) s) ++ low (width 4) p = nb k l s p := by
  rw [show width 4 = 4 from rfl]
  simp [nb]
set_option maxRecDepth 100000 in
set_option maxHeartbeats 2000000 in
theorem refput_all (k l s p : Int) (w : World) (k0 : 0 ≤ k) (k1 : k ≤ 255) (l0 : 0 ≤ l) (l1 : l ≤ 4294967295) (s0 : 0 ≤ s) (s1 : s ≤ 4294967295) (p0 : 0 ≤ p) (p1 : p ≤ 4294967295) :
    Calls Tryd.prog 42 #[.agg #[.int .u8 k, .int .u32 l, .int .u32 s, .int .u32 p]] w fun e w' => e = .returned (.string (nput k l s p)) ∧ Below w.heap.size w w' := by
  have hbw : Below w.heap.size w ((w.alloc (.cells #[.int .u8 k, .int .u32 l, .int .u32 s, .int .u32 p] 32)).alloc (.cells #[.int .u8 k] 5)) := ((Below.refl _ _).alloc (Nat.le_refl _) _).alloc (by simp) _
  have HB := Lib.hid hbw
  have HX := Lib.hid (show Blk ((w.alloc (.cells #[.int .u8 k, .int .u32 l, .int .u32 s, .int .u32 p] 32)).alloc (.cells #[.int .u8 k] 5)) w.heap.size _ _ from (Blk.new_ w _ _).alloc _)
  have hbs : Bs ((w.alloc (.cells #[.int .u8 k, .int .u32 l, .int .u32 s, .int .u32 p] 32)).alloc (.cells #[.int .u8 k] 5)) (some ⟨w.heap.size + 1, 0, none⟩) 1 [k] := by
    have := Bs.new_ (w.alloc (.cells #[.int .u8 k, .int .u32 l, .int .u32 s, .int .u32 p] 32)) 5 (0, 0) [k] (by intro z hz; rw [List.mem_singleton] at hz; omega)
    simpa using this
  have HP := Lib.hid (refput_calls (some ⟨w.heap.size + 1, 0, none⟩) 1 1 [k] 4 l _ hbs (fun e => by cases e) (by omega) (by omega) (by omega) l0 (by omega))
  have H2 := Lib.hid (fun (w : World) (g c : Nat) (xs : List Int) (hb : Bs w (some ⟨g, 0, none⟩) 5 xs) => refput_calls (some ⟨g, 0, none⟩) 5 c xs 4 s w hb (fun e => by cases e) (by omega) (by omega) (by omega) s0 (by omega))
  have H3 := Lib.hid (fun (w : World) (g c : Nat) (xs : List Int) (hb : Bs w (some ⟨g, 0, none⟩) 9 xs) => refput_calls (some ⟨g, 0, none⟩) 9 c xs 4 p w hb (fun e => by cases e) (by omega) (by omega) (by omega) p0 (by omega))
  have L1 := Lib.hid (show ([k] ++ low (width 4) l).length = 5 by simp [low_len]; rfl)
  have L2 := Lib.hid (show (([k] ++ low (width 4) l) ++ low (width 4) s).length = 9 by simp [low_len]; rfl)
  have L3 := Lib.hid (show ((([k] ++ low (width 4) l) ++ low (width 4) s) ++ low (width 4) p).length = 13 by simp [low_len]; rfl)
  have HK := Lib.hid (show str ((([k] ++ low (width 4) l) ++ low (width 4) s) ++ low (width 4) p) = nput k l s p by rw [nb_of]; rfl)
  clear hbw hbs
  obtain ⟨X1, e1⟩ : ∃ x, [k] ++ low (width 4) l = x := ⟨_, rfl⟩
  rw [e1] at L1 L2 L3 HK HP
  obtain ⟨ss, hss⟩ : ∃ z, nput k l s p = z := ⟨_, rfl⟩
  rw [hss] at HK ⊢
  clear hss e1
  go_enter Tryd.func42, Tryd.ntmps42
  go_wp2_with fail
  refine (HP.out).mono ?_
  intro e w1 hm
  obtain ⟨g1, c1, rfl, ho1, hb1⟩ := hm.at_ L1.out
  have HO1 := Lib.hid ho1.bs
  have HX1 := Lib.hid (HX.out.below hb1)
  have HB1 := Lib.hid (keeps HB.out hb1)
  have c2 : w1.cell? ⟨w.heap.size, 2, none⟩ = some (.int .u32 s) := HX1.out.cell 2
  clear hm ho1 hb1
  go_wp2_with fail
  refine (H2.out _ _ _ _ HO1.out).mono ?_
  intro e w2 hm
  obtain ⟨g2, c2, rfl, ho2, hb2⟩ := hm.at_ L2.out
  have HO2 := Lib.hid ho2.bs
  have HX2 := Lib.hid (HX1.out.below hb2)
  have HB2 := Lib.hid (keeps HB1.out hb2)
  have c3 : w2.cell? ⟨w.heap.size, 3, none⟩ = some (.int .u32 p) := HX2.out.cell 3
  clear hm ho2 hb2
  go_wp2_with fail
  refine (H3.out _ _ _ _ HO2.out).mono ?_
  intro e w3 hm
  obtain ⟨g3, c3, rfl, ho3, hb3⟩ := hm.at_ L3.out
  have hs := ho3.str_ (P := Tryd.prog) 67 9 Tryd.underlying67 Tryd.underlying5 Tryd.underlying9
  rw [HK.out] at hs
  have HB3 := Lib.hid (keeps HB2.out hb3)
  clear hm ho3 hb3
  go_wp2_with fail
  go_ret
  exact ⟨rfl, HB3.out⟩
end Go.Proofs.YtbdokofdbeccdaaDoor.NodeR
