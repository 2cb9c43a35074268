/- Layer 8's example: the law's fixed, over the project's Of and Next. -/
import Derived.Test.YthbafcihmcjchaaDoorScanX
import Derived.Deep.RegionLaw
import Derived.BigRegion
namespace Go.Proofs.YthbafcihmcjchaaDoor.ScanY
set_option linter.unusedVariables false
set_option linter.unusedSimpArgs false
open Go.RowKit
open Go.Proofs.YthbafcihmcjchaaDoor.Byte Go.Proofs.YthbafcihmcjchaaDoor.RecM Go.Proofs.YthbafcihmcjchaaDoor.HeadM Go.Proofs.YthbafcihmcjchaaDoor.RingK Go.Proofs.YthbafcihmcjchaaDoor.ScanM Go.Proofs.YthbafcihmcjchaaDoor.ScanO Go.Proofs.YthbafcihmcjchaaDoor.ScanB Go.Proofs.YthbafcihmcjchaaDoor.ScanX Go.Proofs.YthbafcihmcjchaaDoor.Own

theorem hdz_sec (n : Int) (z : Nat) (k : Int) (hm : MayM.may n z = true) : cl n z (hdz n z z) = 1 ∧ en n z (hdz n z z) k = 8 ∧ fu n z (hdz n z z) k = false ∧ fo n z (hdz n z z) k = [] := by
  have hz := MayM.may_yes hm
  have hl := hdz_len n z z (by omega)
  have h1 : cl n z (hdz n z z) = 1 := by
    unfold cl
    rw [HeadR.cls_in hm (by rw [hl]), if_pos]
    unfold hdz
    exact List.take_left' (hd_len n z)
  have hb : RecM.blank (hdz n z z) 8 = true := by
    unfold RecM.blank hdz
    rw [List.drop_left' (hd_len n z), List.all_eq_true]
    intro y hy
    rw [List.eq_of_mem_replicate hy]
    rfl
  have h0 := (c_blank (xs := hdz n z z) (a := 8) (by omega) hb).1
  have ho : on (hdz n z z) 8 = false := by unfold on; rw [h0]; rfl
  have hs := sc_off (k := k) ho
  rw [h0] at hs
  have hd8 : decide (8 = (hdz n z z).length) = false := by rw [decide_eq_false_iff_not, hl]; omega
  rw [hd8] at hs
  unfold en fu fo
  rw [h1, if_pos rfl, if_pos rfl, if_pos rfl, hs]
  exact ⟨rfl, rfl, rfl, rfl⟩
theorem may_6 : MayM.may 6 ((512 : Nat) : Int) = true := by decide
set_option maxRecDepth 100000 in
set_option maxHeartbeats 4000000 in
theorem fixed_calls (hO : OfOk) (hX : NextOk) : FixedOk := by
  intro w hE hN
  have NX := Lib.hid hX
  have BY := Lib.hid (fun w => bytes_calls 6 512 w may_6)
  have OF : Hid (∀ (g cap : Nat) (v : World), 512 ≤ cap → Bs v (some ⟨g, 0, none⟩) 512 (hdz 6 512 512) → Below w.heap.size w v → Calls Tryd.prog 7 #[.agg #[.int .i64 6, .int .i64 512], .int .i64 3, .slice (some ⟨g, 0, none⟩) 512 cap] v fun e v' => ∃ A p, e = .returned (.agg #[.int .i64 1, .int .i64 8, .bool false, .slice A 0 p]) ∧ Below v.heap.size v v') := Lib.hid (by
    intro g cap v hc hb hv
    have h := hO 6 512 (some ⟨g, 0, none⟩) 512 cap 3 (hdz 6 512 512) v hb hc (by omega) (by omega) (hN.below hv)
    obtain ⟨p1, p2, p3, p4⟩ := hdz_sec 6 512 ((3 : Nat) : Int) may_6
    refine h.mono ?_
    intro e v' hs
    have hs2 : SecE 1 8 false [] v e v' := by
      have e1 : cl 6 512 (hdz 6 512 512) = 1 := p1
      have e2 : en 6 512 (hdz 6 512 512) ((3 : Nat) : Int) = 8 := p2
      have e3 : fu 6 512 (hdz 6 512 512) ((3 : Nat) : Int) = false := p3
      have e4 : fo 6 512 (hdz 6 512 512) ((3 : Nat) : Int) = [] := p4
      rw [e1, e2, e3, e4] at hs
      exact hs
    obtain ⟨A, p, q1, _, q3⟩ := SecE.at_ hs2
    exact ⟨A, p, q1, q3⟩)
  have x0 := hE.2.1
  have x1 := hE.2.2
  have hxl := hE.1
  have hx6 := hE.below ((Below.refl w.heap.size w).alloc (Nat.le_refl _) (.cells #[.int .i64 0, .int .i64 0, .bool false, .slice none 0 0] 31))
  have x6 := hx6.2.1
  have x7 := hx6.2.2
  clear hx6
  have HXE := Lib.hid (fun v (hv : Below w.heap.size w v) => hE.below hv)
  clear hE hN hO hX
  go_enter Tryd.func4, Tryd.ntmps4
  go_wp2_with fail
  go_region_law (first
    | (go_simp; go_at_call 9; refine (BY.out _).mono ?_; rintro e w2 ⟨g2, cap2, rfl, hc2, hbs2, hb2⟩; have hw2 : Below w.heap.size w w2 := (by first | exact hb2 | exact keeps ((Below.refl _ _).drew) hb2 | exact keeps (((Below.refl _ _).alloc (Nat.le_refl _) _).drew) hb2 | exact keeps ((Below.refl _ _).drew.alloc (by simp) _) hb2); have hx2 := HXE.out w2 hw2; have x2 := hx2.2.1; have x3 := hx2.2.2; have hx4 := hx2.below ((Below.refl w2.heap.size w2).alloc (Nat.le_refl _) (.cells #[.int .i64 0, .int .i64 0, .bool false, .slice none 0 0] 31)); have x4 := hx4.2.1; have x5 := hx4.2.2; clear hx2 hx4)
    | (go_simp; go_at_call 7; refine (OF.out g2 cap2 _ hc2 (by first | exact hbs2 | exact hbs2.below ((Below.refl _ _).alloc (Nat.le_refl _) _)) (by first | exact hw2 | exact hw2.alloc hw2.size _)).mono ?_; rintro e w3 ⟨A3, p3, rfl, hb3⟩; have hw3 : Below w.heap.size w w3 := (by first | exact keeps hw2 hb3 | exact keeps (hw2.alloc hw2.size _) hb3); have hz3 : Blk w3 w2.heap.size #[.int .i64 0, .int .i64 0, .bool false, .slice none 0 0] 31 := (Blk.new_ w2 _ _).below hb3; have c0 : w3.cell? ⟨w2.heap.size, 0, none⟩ = some (.int .i64 0) := hz3.cell 0; have f0 : w3.frozen? ⟨w2.heap.size, 0, none⟩ = false := hz3.frozen 0; have c1 : w3.cell? ⟨w2.heap.size, 1, none⟩ = some (.int .i64 0) := hz3.cell 1; have f1 : w3.frozen? ⟨w2.heap.size, 1, none⟩ = false := hz3.frozen 1; have c2 : w3.cell? ⟨w2.heap.size, 2, none⟩ = some (.bool false) := hz3.cell 2; have f2 : w3.frozen? ⟨w2.heap.size, 2, none⟩ = false := hz3.frozen 2; have c3 : w3.cell? ⟨w2.heap.size, 3, none⟩ = some (.slice none 0 0) := hz3.cell 3; have f3 : w3.frozen? ⟨w2.heap.size, 3, none⟩ = false := hz3.frozen 3)
    | (go_simp; go_at_call 7; refine (OF.out g2 cap2 _ hc2 (by first | exact hbs2 | exact hbs2.below ((Below.refl _ _).alloc (Nat.le_refl _) _)) (by first | exact hw2 | exact hw2.alloc hw2.size _)).mono ?_; rintro e w3 ⟨A3, p3, rfl, hb3⟩; have hw3 : Below w.heap.size w w3 := (by first | exact keeps hw2 hb3 | exact keeps (hw2.alloc hw2.size _) hb3); have hz3 : Blk w3 w.heap.size #[.int .i64 0, .int .i64 0, .bool false, .slice none 0 0] 31 := (by first | exact ((Blk.new_ w _ _).drew.below hb2).below hb3 | exact ((Blk.new_ w.drew _ _).below hb2).below hb3); have c0 : w3.cell? ⟨w.heap.size, 0, none⟩ = some (.int .i64 0) := hz3.cell 0; have f0 : w3.frozen? ⟨w.heap.size, 0, none⟩ = false := hz3.frozen 0; have c1 : w3.cell? ⟨w.heap.size, 1, none⟩ = some (.int .i64 0) := hz3.cell 1; have f1 : w3.frozen? ⟨w.heap.size, 1, none⟩ = false := hz3.frozen 1; have c2 : w3.cell? ⟨w.heap.size, 2, none⟩ = some (.bool false) := hz3.cell 2; have f2 : w3.frozen? ⟨w.heap.size, 2, none⟩ = false := hz3.frozen 2; have c3 : w3.cell? ⟨w.heap.size, 3, none⟩ = some (.slice none 0 0) := hz3.cell 3; have f3 : w3.frozen? ⟨w.heap.size, 3, none⟩ = false := hz3.frozen 3)
    | (go_simp; go_at_call 7; refine (OF.out g2 cap2 _ hc2 (by first | exact hbs2 | exact hbs2.below ((Below.refl _ _).alloc (Nat.le_refl _) _)) (by first | exact hw2 | exact hw2.alloc hw2.size _)).mono ?_; rintro e w3 ⟨A3, p3, rfl, hb3⟩; have hw3 : Below w.heap.size w w3 := (by first | exact keeps hw2 hb3 | exact keeps (hw2.alloc hw2.size _) hb3)))
  all_goals
    have hs2 := hw2.size
    go_wp2_with (go_at_call 10; refine (NX.out _).mono ?_; rintro e w4 ⟨rfl, hb4⟩; have hn4 : Below w.heap.size w w4 := keeps (by first | exact hw3.alloc hw3.size _ | exact ((((hw3.setCell (p := ⟨_, 0, none⟩) (by first | exact Nat.le_refl _ | exact hs2) _).setCell (p := ⟨_, 1, none⟩) (by first | exact Nat.le_refl _ | exact hs2) _).setCell (p := ⟨_, 2, none⟩) (by first | exact Nat.le_refl _ | exact hs2) _).setCell (p := ⟨_, 3, none⟩) (by first | exact Nat.le_refl _ | exact hs2) _)) hb4)
    go_ret
    exact ⟨rfl, hn4⟩
end Go.Proofs.YthbafcihmcjchaaDoor.ScanY
