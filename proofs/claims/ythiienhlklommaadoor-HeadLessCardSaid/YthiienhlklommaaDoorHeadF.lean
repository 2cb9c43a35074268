/- Layer 5's law file: fixed. -/
import Derived.Test.YthiienhlklommaaDoorHeadW
import Derived.Deep.DrawnRows
namespace Go.Proofs.YthiienhlklommaaDoor.HeadF
set_option linter.unusedVariables false
set_option linter.unusedSimpArgs false
open Go.RowKit
open Go.Proofs.YthiienhlklommaaDoor.Byte Go.Proofs.YthiienhlklommaaDoor.PackM Go.Proofs.YthiienhlklommaaDoor.PackV Go.Proofs.YthiienhlklommaaDoor.MayM Go.Proofs.YthiienhlklommaaDoor.HeadM Go.Proofs.YthiienhlklommaaDoor.HeadR Go.Proofs.YthiienhlklommaaDoor.HeadS Go.Proofs.YthiienhlklommaaDoor.HeadW
attribute [local go_sem ↓] Go.wp_at_zero Go.wp_at_succ

theorem keeps {w v v' : World} (h : Below w.heap.size w v) (hb : Below v.heap.size v v') : Below w.heap.size w v' := h.trans (hb.mono h.size)
/-- A head in a variable of its own. -/
theorem hd_bs (w : World) (t : TypeId) (n z : Int) : Bs (w.alloc (.cells ((hd n z).map (Value.int .u8)).toArray t)) (some ⟨w.heap.size, 0, none⟩) 8 (hd n z) := by
  have := Bs.new_ w t (0, 0) (hd n z) (hd_bd n z)
  rwa [hd_len] at this
theorem hd8 (n z : Int) : ∃ a b c d e f g h, hd n z = [a, b, c, d, e, f, g, h] := by
  have hl := hd_len n z
  generalize hd n z = l at hl
  match l, hl with
  | [a, b, c, d, e, f, g, h], _ => exact ⟨a, b, c, d, e, f, g, h, rfl⟩
theorem sector_ex (A : Option Addr) (m c : Nat) (xs : List Int) (w : World) (hb : Bs w A m xs) :
    Calls Tryd.prog 12 #[.agg #[.int .i64 6, .int .i64 512], .slice A m c] w fun e w' => ∃ g cap, e = .returned (.slice (some ⟨g, 0, none⟩) 512 cap) ∧ 512 ≤ cap ∧ Ob w' w.heap.size 5 g 512 cap (sec 512 xs) ∧ Below w.heap.size w w' :=
  sector_calls 6 512 A m c xs w (by omega) (by omega) hb
theorem may_ex : may 6 512 = true := by decide
theorem cls_ex : cls 6 512 (sec 512 (hd 6 512)) = 1 := (cls_sec (n := 6) (z := 512) may_ex _ (by rw [hd_len]; omega) (hd_len _ _)).2 rfl
theorem cls_blank : cls 6 512 (sec 512 []) = 0 := by decide +kernel
set_option maxRecDepth 100000 in
set_option maxHeartbeats 4000000 in
theorem fixed_calls (w : World) (hE : Example w) : Calls Tryd.prog 9 #[] w fun e w' => e = .returned (.bool true) ∧ Below w.heap.size w w' := by
  have HE := Lib.hid hE
  have g0 := hE.2.1
  have g1 := hE.2.2
  have hw0 := hE.1
  have ht4 : str ((hd 6 512).take 4) = ⟨#[84, 120, 78, 82]⟩ := by rw [take4 may_ex]; rfl
  clear hE
  obtain ⟨x0, x1, x2, x3, x4, x5, x6, x7, hx⟩ := hd8 6 512
  go_enter Tryd.func9, Tryd.ntmps9
  go_wp2_with fail
  refine (of_calls 6 512 _).mono ?_
  rintro e w1 ⟨rfl, hb1⟩
  have HB1 := Lib.hid hb1
  have hbs := hd_bs w1 24 6 512
  rw [hx] at hbs ht4 ⊢
  simp only [List.map_cons, List.map_nil]
  have HT4 := Lib.hid ht4
  have HX := Lib.hid hx
  clear hb1 g0 g1 ht4 hx
  go_upto_region 2 with (fail)
  change Code.wp _ _ _ _ (w1.alloc (.cells #[.int .u8 x0, .int .u8 x1, .int .u8 x2, .int .u8 x3, .int .u8 x4, .int .u8 x5, .int .u8 x6, .int .u8 x7] 24))
  have hb2 : Below w1.heap.size w1 (w1.alloc (.cells #[.int .u8 x0, .int .u8 x1, .int .u8 x2, .int .u8 x3, .int .u8 x4, .int .u8 x5, .int .u8 x6, .int .u8 x7] 24)) := (Below.refl _ _).alloc (Nat.le_refl _) _
  have HBS : Hid (Bs (w1.alloc (.cells #[.int .u8 x0, .int .u8 x1, .int .u8 x2, .int .u8 x3, .int .u8 x4, .int .u8 x5, .int .u8 x6, .int .u8 x7] 24)) (some ⟨w1.heap.size, 0, none⟩) 8 [x0, x1, x2, x3, x4, x5, x6, x7]) := Lib.hid hbs
  have HB2 := Lib.hid (keeps HB1.out hb2)
  clear hbs hb2
  generalize w1.alloc (.cells #[.int .u8 x0, .int .u8 x1, .int .u8 x2, .int .u8 x3, .int .u8 x4, .int .u8 x5, .int .u8 x6, .int .u8 x7] 24) = W at *
  have RD : Hid (∀ v, Below W.heap.size W v → Below W.heap.size W v ∧ v.cell? ⟨0, 0, none⟩ = some (.int .i64 6) ∧ v.cell? ⟨0, 1, none⟩ = some (.int .i64 512) ∧ (convert 26 9 (.slice (some ⟨w1.heap.size, 0, none⟩) 4 8)).run Tryd.prog v = .ok (.string ⟨#[84, 120, 78, 82]⟩) v) := Lib.hid fun v hv => by
    have h1 := HE.out.below (HB2.out.trans (hv.mono HB2.out.size))
    have h2 : Bs v (some ⟨w1.heap.size, 0 + 0, none⟩) 4 (([x0, x1, x2, x3, x4, x5, x6, x7].drop 0).take 4) := (HBS.out.below hv).sub 0 4 (by omega)
    have h3 := h2.str_ (P := Tryd.prog) (c := 8) 26 9 Tryd.underlying26 Tryd.underlying5 Tryd.underlying9
    rw [List.drop_zero, HT4.out] at h3
    exact ⟨hv, h1.2.1, h1.2.2, h3⟩
  refine wp_region_noPanic ?_
  go_region_held3 (fun v => Below W.heap.size W v ∧ v.cell? ⟨0, 0, none⟩ = some (.int .i64 6) ∧ v.cell? ⟨0, 1, none⟩ = some (.int .i64 512) ∧ (convert 26 9 (.slice (some ⟨w1.heap.size, 0, none⟩) 4 8)).run Tryd.prog v = .ok (.string ⟨#[84, 120, 78, 82]⟩) v)
    (first
      | exact RD.out _ (Below.refl _ _)
      | exact RD.out _ (by assumption)
      | exact RD.out _ (Below.drew (by assumption))
      | exact RD.out _ (Below.drew (Below.refl _ _))
      | exact RD.out _ (And.left (by assumption)))
    (first
      | (go_at_call 12; (with_reducible refine (sector_ex (some ⟨w1.heap.size, 0, none⟩) 8 8 [x0, x1, x2, x3, x4, x5, x6, x7] _ (HBS.out.below (And.left (by assumption)))).mono ?_); rintro e w4 ⟨g4, c4, rfl, hc4, ho4, hb4⟩; have hn4 : Below W.heap.size W w4 := keeps (And.left (by assumption)) hb4; have HO4 := Lib.hid ho4; clear ho4 hb4)
      | (go_at_call 12; (with_reducible refine (sector_ex none 0 0 [] _ (Bs.nil_ _ _)).mono ?_); rintro e w6 ⟨g6, c6, rfl, hc6, ho6, hb6⟩; have hn6 : Below W.heap.size W w6 := keeps (And.left (by assumption)) hb6; have HO6 := Lib.hid ho6; clear ho6 hb6)
      | (go_at_call 13; (with_reducible refine (class_calls 6 512 (some ⟨g4, 0, none⟩) 512 c4 (sec 512 [x0, x1, x2, x3, x4, x5, x6, x7]) w4 HO4.out.bs hc4).mono ?_); rw [← HX.out, cls_ex]; rintro e w5 ⟨rfl, hb5⟩; have hn5 : Below W.heap.size W w5 := keeps hn4 hb5; clear hb5)
      | (go_at_call 13; (with_reducible refine (class_calls 6 512 (some ⟨g6, 0, none⟩) 512 c6 (sec 512 []) w6 HO6.out.bs hc6).mono ?_); rw [cls_blank]; rintro e w7 ⟨rfl, hb7⟩; have hn7 : Below W.heap.size W w7 := keeps hn6 hb7; clear hb7))
  refine NoPanic.normal ?_
  have HW := Lib.hid (keeps HB2.out hn7)
  go_wp2_with fail
  go_ret
  exact ⟨rfl, HW.out⟩
end Go.Proofs.YthiienhlklommaaDoor.HeadF
