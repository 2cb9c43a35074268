/- The contract of the document's Range of layer 14. -/
import Derived.Test.YtdnenikplajmaaaViewW
namespace Go.Proofs.Ytdnenikplajmaaa.ViewS
set_option linter.unusedVariables false
set_option linter.unusedSimpArgs false
open Go.RowKit
open Go.Proofs.Ytdnenikplajmaaa.Byte Go.Proofs.Ytdnenikplajmaaa.KeysM Go.Proofs.Ytdnenikplajmaaa.TreeM Go.Proofs.Ytdnenikplajmaaa.ViewM Go.Proofs.Ytdnenikplajmaaa.Own Go.Proofs.Ytdnenikplajmaaa.Rw Go.Proofs.Ytdnenikplajmaaa.Lst Go.Proofs.Ytdnenikplajmaaa.TreeR Go.Proofs.Ytdnenikplajmaaa.TreeS Go.Proofs.Ytdnenikplajmaaa.Ho Go.Proofs.Ytdnenikplajmaaa.ViewR Go.Proofs.Ytdnenikplajmaaa.ViewG Go.Proofs.Ytdnenikplajmaaa.ViewW

theorem range_is {h : Sh} {L : List Pr} {w : World} (a b : ByteArray) (hs : Ss prE w h L) (hn : L.length ≤ 100000) : Calls Try.prog 44 #[.slice h.a h.n h.c, .string a, .string b] w (RowR (rangeL a b L) w) :=
  (refrange_calls h.a h.n h.c L a b w hs.1 (by rw [← hs.len]; exact hn)).mono fun _ _ h => RowR.of h
theorem has_yes {G : List (ByteArray × ByteArray)} {a b : ByteArray} {j : Nat} {x : ByteArray × ByteArray} (h : G[j]? = some x) (h1 : x.1 = a) (h2 : x.2 = b) : hasR a b G = true := by
  unfold hasR
  rw [List.any_eq_true]
  exact ⟨x, List.mem_of_getElem? h, by simp [h1, h2]⟩
theorem has_no {G : List (ByteArray × ByteArray)} {a b : ByteArray} (h : ∀ j x, j < G.length → G[j]? = some x → ¬ (x.1 = a ∧ x.2 = b)) : hasR a b G = false := by
  unfold hasR
  rw [List.any_eq_false]
  intro x hx
  obtain ⟨j, hj, rfl⟩ := List.mem_iff_getElem.1 hx
  have := h j _ hj (List.getElem?_eq_getElem hj)
  simpa using this
/-- The call answers as the document's Range, with the view behind it. -/
def RgR (s : Vs) (x y : ByteArray) (b wt rd rg : Sh) (w : World) (e : Ending) (w' : World) : Prop := ∃ r rg' : Sh, e = .returned (.tuple #[.slice r.a r.n r.c, .agg #[.slice b.a b.n b.c, .slice wt.a wt.n wt.c, .slice rd.a rd.n rd.c, .slice rg'.a rg'.n rg'.c]]) ∧ Ss prE w' r (s.rangeOf x y) ∧ Dv w' (s.ranged x y) b wt rd rg' ∧ Below w.heap.size w w' ∧ NewA w r ∧ (rg' = rg ∨ NewA w rg')
theorem range_own {h : Sh} {L : List Pr} {w : World} (a b : ByteArray) (hs : Ss prE w h L) (hn : L.length ≤ 100000) : Calls Try.prog 44 #[.slice h.a h.n h.c, .string a, .string b] w fun e w' => ∃ r : Sh, e = .returned r.v ∧ Ss prE w' r (rangeL a b L) ∧ Below w.heap.size w w' ∧ NewA w r := by
  refine (refrange_calls h.a h.n h.c L a b w hs.1 (by rw [← hs.len]; exact hn)).mono ?_
  rintro e w' ⟨v, rfl, ho, hb⟩
  obtain ⟨r, rfl, hss, hbk⟩ := own_sl ho
  exact ⟨r, rfl, hss, hb, hbk⟩
theorem new_up {w' : World} {r : Sh} {n : Nat} (h : n ≤ w'.heap.size) (hr : NewA w' r) : ∀ bb oo, r.a = some ⟨bb, oo, none⟩ → n ≤ bb := fun bb oo e => Nat.le_trans h (hr bb oo e)
theorem nil_len {α : Type} {e : Enc α} {w : World} {A : Option Addr} {n : Nat} {L : List α} (h : Sl e w A n L) (hA : A = none) : n = 0 := by
  subst hA
  rw [← h.1]
  cases L with
  | nil => rfl
  | cons x L =>
    obtain ⟨b, o, h1, _⟩ := h.2 0 x rfl
    cases h1
theorem grown_below {α : Type} {e : Enc α} {T : TypeId} {w wr w' : World} {n : Nat} {v : Value} {L : List α} (hb : Below w.heap.size w wr) (ho : So e T wr w.heap.size v n L) (hg : wr.grownBy w' v.ownBlock) : Below w.heap.size w w' :=
  hb.grown hg hb.size (fun g hv => (ho.lt hv).1)
/-- RANGE -/
theorem range_mark : True := trivial
set_option maxRecDepth 100000 in
set_option maxHeartbeats 8000000 in
theorem range_no (s : Vs) (b wt rd rg : Sh) (x y : ByteArray) (w : World) (hd : Dv w s b wt rd rg) (hb : s.base.length ≤ 1000) (hrg : s.rg.length ≤ 1000) (hok : s.Ok) (hk : kl x y = false) :
    Calls Try.prog 30 #[.agg #[.slice b.a b.n b.c, .slice wt.a wt.n wt.c, .slice rd.a rd.n rd.c, .slice rg.a rg.n rg.c], .string x, .string y] w (RgR s x y b wt rd rg w) := by
  have HD := Lib.hid hd
  have HOK := Lib.hid hok
  have HLB := Lib.hid hb
  have HK := Lib.hid hk
  obtain ⟨ga, gn, gc⟩ := rg
  have hgc := hd.rg.2.1
  have hgc2 := hd.rg.2.2.1
  have hln := hd.rg.len
  have hgnil := hd.rg.2.2.2.1
  have hgsp := hd.rg.2.2.2.2
  dsimp only at hgc hgc2 hln hgnil hgsp
  rw [hln] at hrg
  have HLN := Lib.hid hln
  have HNIL := Lib.hid hgnil
  have HSP := Lib.hid hgsp
  have hW0 : ∃ W0, (w.alloc (.cells #[.slice b.a b.n b.c, .slice wt.a wt.n wt.c, .slice rd.a rd.n rd.c, .slice ga gn gc] 32)).alloc (.cells zeroV 32) = W0 ∧ Blk W0 w.heap.size #[.slice b.a b.n b.c, .slice wt.a wt.n wt.c, .slice rd.a rd.n rd.c, .slice ga gn gc] 32 ∧ Blk W0 (w.heap.size + 1) zeroV 32 ∧ Below w.heap.size w W0 ∧ W0.heap.size = w.heap.size + 2 :=
    ⟨_, rfl, (Blk.new_ _ _ _).alloc _, by have h := Blk.new_ (w.alloc (.cells #[.slice b.a b.n b.c, .slice wt.a wt.n wt.c, .slice rd.a rd.n rd.c, .slice ga gn gc] 32)) zeroV 32; simpa using h, ((Below.refl _ _).alloc (Nat.le_refl _) _).alloc (by simp <;> omega) _, by simp⟩
  obtain ⟨W0, e0, q1, q3, q4, q5⟩ := hW0
  have E0 := Lib.hid e0
  have Q1 := Lib.hid q1
  have Q3 := Lib.hid q3
  have Q4 := Lib.hid q4
  have Q5 := Lib.hid q5
  have f1 : Op.bytesLess x.toList y.toList = false := hk
  clear hd hb hok hln e0 q1 q3 q4 q5 hk hgnil hgsp
  go_enter Try.func30, Try.ntmps30
  go_upto_region 1 with (fail)
  change Code.wp _ _ _ _ ((w.alloc (.cells #[.slice b.a b.n b.c, .slice wt.a wt.n wt.c, .slice rd.a rd.n rd.c, .slice ga gn gc] 32)).alloc (.cells zeroV 32))
  rw [E0.out]
  have hsz : w.heap.size < W0.heap.size := Q1.out.lt
  have hsz2 : w.heap.size + 1 < W0.heap.size := Q3.out.lt
  have HR0 : Hid (s.rangeOf x y = []) := Lib.hid (by unfold Vs.rangeOf; rw [HK.out]; rfl)
  have HR1 : Hid (s.ranged x y = s) := Lib.hid (by unfold Vs.ranged; rw [HK.out]; rfl)
  go_wp2_with fail
  obtain ⟨d0, d1, d2, d3⟩ : W0.cell? ⟨w.heap.size, 0, none⟩ = some (.slice b.a b.n b.c) ∧ W0.cell? ⟨w.heap.size, 1, none⟩ = some (.slice wt.a wt.n wt.c) ∧ W0.cell? ⟨w.heap.size, 2, none⟩ = some (.slice rd.a rd.n rd.c) ∧ W0.cell? ⟨w.heap.size, 3, none⟩ = some (.slice ga gn gc) := ⟨Q1.out.cell 0, Q1.out.cell 1, Q1.out.cell 2, Q1.out.cell 3⟩
  obtain ⟨r0, r1, r2, r3⟩ : W0.cell? ⟨w.heap.size + 1, 0, none⟩ = some (.slice none 0 0) ∧ W0.cell? ⟨w.heap.size + 1, 1, none⟩ = some (.slice none 0 0) ∧ W0.cell? ⟨w.heap.size + 1, 2, none⟩ = some (.slice none 0 0) ∧ W0.cell? ⟨w.heap.size + 1, 3, none⟩ = some (.slice none 0 0) := ⟨Q3.out.cell 0, Q3.out.cell 1, Q3.out.cell 2, Q3.out.cell 3⟩
  obtain ⟨f0, f2, f3, f4⟩ : W0.frozen? ⟨w.heap.size + 1, 0, none⟩ = false ∧ W0.frozen? ⟨w.heap.size + 1, 1, none⟩ = false ∧ W0.frozen? ⟨w.heap.size + 1, 2, none⟩ = false ∧ W0.frozen? ⟨w.heap.size + 1, 3, none⟩ = false := ⟨Q3.out.frozen 0, Q3.out.frozen 1, Q3.out.frozen 2, Q3.out.frozen 3⟩
  go_region_law (fail)
  all_goals go_wp2_with fail
  all_goals
    have hz2 : Blk (((((W0.setCell ⟨w.heap.size + 1, 0, none⟩ (.slice b.a b.n b.c)).setCell ⟨w.heap.size + 1, 1, none⟩ (.slice wt.a wt.n wt.c)).setCell ⟨w.heap.size + 1, 2, none⟩ (.slice rd.a rd.n rd.c)).setCell ⟨w.heap.size + 1, 3, none⟩ (.slice ga gn gc)).alloc (.cells #[] 69)).drew (w.heap.size + 1) #[.slice b.a b.n b.c, .slice wt.a wt.n wt.c, .slice rd.a rd.n rd.c, .slice ga gn gc] 32 := (((((Q3.out.set_ 0 (.slice b.a b.n b.c)).set_ 1 (.slice wt.a wt.n wt.c)).set_ 2 (.slice rd.a rd.n rd.c)).set_ 3 (.slice ga gn gc)).alloc _).drew
    have hb2 : Below w.heap.size w (((((W0.setCell ⟨w.heap.size + 1, 0, none⟩ (.slice b.a b.n b.c)).setCell ⟨w.heap.size + 1, 1, none⟩ (.slice wt.a wt.n wt.c)).setCell ⟨w.heap.size + 1, 2, none⟩ (.slice rd.a rd.n rd.c)).setCell ⟨w.heap.size + 1, 3, none⟩ (.slice ga gn gc)).alloc (.cells #[] 69)).drew := (((((Q4.out.setCell (by simp) _).setCell (by simp) _).setCell (by simp) _).setCell (by simp) _).alloc (by have := Q4.out.size; simpa using this) _).drew
    (refine bodyPost_ret (v := .tuple #[.slice (some ⟨W0.heap.size, 0, none⟩) 0 0, .agg #[.slice b.a b.n b.c, .slice wt.a wt.n wt.c, .slice rd.a rd.n rd.c, .slice ga gn gc]]) (results_tmp1_row rfl _ _ (w.heap.size + 1) 32 _ (0, 0) _ rfl (.slice (some ⟨W0.heap.size, 0, none⟩) 0 0) rfl hz2 Try.underlying32 rfl info_view) rfl ?_; exact ⟨⟨some ⟨W0.heap.size, 0, none⟩, 0, 0⟩, ⟨ga, gn, gc⟩, rfl, by rw [HR0.out]; exact ⟨Sl.nil_ _ _ _, Nat.le_refl _, Nat.zero_le _, (fun h => by cases h), fun b h => by injection h with h; rw [← h]⟩, by rw [HR1.out]; exact HD.out.below hb2, hb2, (fun bb oo hh => by injection hh with hh; injection hh with h1 _; rw [← h1]; have := Q4.out.size; omega), .inl rfl⟩)
set_option maxRecDepth 100000 in
set_option maxHeartbeats 8000000 in
theorem range_yes (s : Vs) (b wt rd rg : Sh) (x y : ByteArray) (w : World) (hd : Dv w s b wt rd rg) (hb : s.base.length ≤ 1000) (hrg : s.rg.length ≤ 1000) (hok : s.Ok) (hk : kl x y = true) :
    Calls Try.prog 30 #[.agg #[.slice b.a b.n b.c, .slice wt.a wt.n wt.c, .slice rd.a rd.n rd.c, .slice rg.a rg.n rg.c], .string x, .string y] w (RgR s x y b wt rd rg w) := by
  have HD := Lib.hid hd
  have HOK := Lib.hid hok
  have HLB := Lib.hid hb
  have HK := Lib.hid hk
  obtain ⟨ga, gn, gc⟩ := rg
  have hgc := hd.rg.2.1
  have hgc2 := hd.rg.2.2.1
  have hln := hd.rg.len
  have hgnil := hd.rg.2.2.2.1
  have hgsp := hd.rg.2.2.2.2
  dsimp only at hgc hgc2 hln hgnil hgsp
  rw [hln] at hrg
  have HLN := Lib.hid hln
  have HNIL := Lib.hid hgnil
  have HSP := Lib.hid hgsp
  have hW0 : ∃ W0, (w.alloc (.cells #[.slice b.a b.n b.c, .slice wt.a wt.n wt.c, .slice rd.a rd.n rd.c, .slice ga gn gc] 32)).alloc (.cells zeroV 32) = W0 ∧ Blk W0 w.heap.size #[.slice b.a b.n b.c, .slice wt.a wt.n wt.c, .slice rd.a rd.n rd.c, .slice ga gn gc] 32 ∧ Blk W0 (w.heap.size + 1) zeroV 32 ∧ Below w.heap.size w W0 ∧ W0.heap.size = w.heap.size + 2 :=
    ⟨_, rfl, (Blk.new_ _ _ _).alloc _, by have h := Blk.new_ (w.alloc (.cells #[.slice b.a b.n b.c, .slice wt.a wt.n wt.c, .slice rd.a rd.n rd.c, .slice ga gn gc] 32)) zeroV 32; simpa using h, ((Below.refl _ _).alloc (Nat.le_refl _) _).alloc (by simp <;> omega) _, by simp⟩
  obtain ⟨W0, e0, q1, q3, q4, q5⟩ := hW0
  have E0 := Lib.hid e0
  have Q1 := Lib.hid q1
  have Q3 := Lib.hid q3
  have Q4 := Lib.hid q4
  have Q5 := Lib.hid q5
  have f1 : Op.bytesLess x.toList y.toList = true := hk
  clear hd hb hok hln e0 q1 q3 q4 q5 hk hgnil hgsp
  go_enter Try.func30, Try.ntmps30
  go_upto_region 1 with (fail)
  change Code.wp _ _ _ _ ((w.alloc (.cells #[.slice b.a b.n b.c, .slice wt.a wt.n wt.c, .slice rd.a rd.n rd.c, .slice ga gn gc] 32)).alloc (.cells zeroV 32))
  rw [E0.out]
  have hsz : w.heap.size < W0.heap.size := Q1.out.lt
  have hsz2 : w.heap.size + 1 < W0.heap.size := Q3.out.lt
  go_wp2_with (first
    | ((with_reducible refine pick (some 16) ?_); refine load_blk rfl 32 _ rfl w.heap.size rfl 32 #[.slice b.a b.n b.c, .slice wt.a wt.n wt.c, .slice rd.a rd.n rd.c, .slice ga gn gc] _ Q1.out Try.underlying32 rfl info_view ?_)
    | (go_at_call 43; refine (shown_calls s b wt rd ⟨ga, gn, gc⟩ _ (HD.out.below Q4.out) HLB.out HOK.out).mono ?_; rintro e w6 ⟨h6, rfl, hs6, hb6⟩; have HS6 := Lib.hid hs6; have Q1b := Lib.hid (Q1.out.below hb6); have Q3b := Lib.hid (Q3.out.below hb6); have Q4b := Lib.hid (keeps Q4.out hb6); have hz6 : w.heap.size + 2 ≤ w6.heap.size := (by have h1 := hb6.size; have h2 := Q5.out; omega); have HZ6 := Lib.hid hz6; clear hs6 hb6 hz6)
    | (go_at_call 44; refine (range_own x y HS6.out (by have h1 := shown_len s.base s.wr; have h2 := HLB.out; have h3 := HOK.out.lw; show (shownL s.base s.wr).length ≤ _; omega)).mono ?_; rintro e w7 ⟨r, rfl, hs7, hb7, hn7⟩; have HS7 := Lib.hid hs7; have Q1c := Lib.hid (Q1b.out.below hb7); have Q3c := Lib.hid (Q3b.out.below hb7); have Q4c := Lib.hid (keeps Q4b.out hb7); have HN7 := Lib.hid (new_up HZ6.out hn7); have HZ7 := Lib.hid (Nat.le_trans HZ6.out hb7.size); obtain a3 : w7.cell? ⟨w.heap.size, 3, none⟩ = some (.slice ga gn gc) := Q1c.out.cell 3; clear hs7 hb7 hn7))
  have HRO : Hid (s.rangeOf x y = rangeL x y s.shown) := Lib.hid (by unfold Vs.rangeOf; rw [HK.out]; rfl)
  clear hsz hsz2
  go_loop [24] (fun i => ∃ j : Nat, j ≤ gn ∧ i = .int .i64 j ∧ Hid (∀ i p, i < j → s.rg[i]? = some p → ¬ (p.1 = x ∧ p.2 = y))) (fun i => gn - (intOf i).toNat)
  case atStart => exact ⟨0, Nat.zero_le _, rfl, Lib.hid (fun i p hi => absurd hi (by omega))⟩
  case round =>
    obtain ⟨j, hj, rfl, HN⟩ := hrel
    by_cases hlt : j < gn
    · obtain ⟨p, g, o, hp, rfl, hg, hcl⟩ := (HD.out.rg.1.below Q4c.out).get j hlt
      have c0 : w7.cell? ⟨g, o + j * 2, none⟩ = some (.string p.1) := hcl 0 _ rfl
      have c1 : w7.cell? ⟨g, o + j * 2 + 1, none⟩ = some (.string p.2) := hcl 1 _ rfl
      have HP := Lib.hid hp
      clear hcl hp hg
      by_cases he : p.1 = x ∧ p.2 = y
      · have z1 : (p.1.toList == x.toList) = true := neq_true he.1
        have z2 : (p.2.toList == y.toList) = true := neq_true he.2
        have HSAME : Hid (s.ranged x y = s) := Lib.hid (by unfold Vs.ranged addR; rw [HK.out, if_pos rfl, if_pos (has_yes HP.out he.1 he.2)])
        clear he
        go_wp2_with fail
        obtain ⟨d0, d1, d2, d3⟩ : w7.cell? ⟨w.heap.size, 0, none⟩ = some (.slice b.a b.n b.c) ∧ w7.cell? ⟨w.heap.size, 1, none⟩ = some (.slice wt.a wt.n wt.c) ∧ w7.cell? ⟨w.heap.size, 2, none⟩ = some (.slice rd.a rd.n rd.c) ∧ w7.cell? ⟨w.heap.size, 3, none⟩ = some (.slice (some ⟨g, o, none⟩) gn gc) := ⟨Q1c.out.cell 0, Q1c.out.cell 1, Q1c.out.cell 2, Q1c.out.cell 3⟩
        obtain ⟨r0, r1, r2, r3⟩ : w7.cell? ⟨w.heap.size + 1, 0, none⟩ = some (.slice none 0 0) ∧ w7.cell? ⟨w.heap.size + 1, 1, none⟩ = some (.slice none 0 0) ∧ w7.cell? ⟨w.heap.size + 1, 2, none⟩ = some (.slice none 0 0) ∧ w7.cell? ⟨w.heap.size + 1, 3, none⟩ = some (.slice none 0 0) := ⟨Q3c.out.cell 0, Q3c.out.cell 1, Q3c.out.cell 2, Q3c.out.cell 3⟩
        obtain ⟨f0, f2, f3, f4⟩ : w7.frozen? ⟨w.heap.size + 1, 0, none⟩ = false ∧ w7.frozen? ⟨w.heap.size + 1, 1, none⟩ = false ∧ w7.frozen? ⟨w.heap.size + 1, 2, none⟩ = false ∧ w7.frozen? ⟨w.heap.size + 1, 3, none⟩ = false := ⟨Q3c.out.frozen 0, Q3c.out.frozen 1, Q3c.out.frozen 2, Q3c.out.frozen 3⟩
        go_region_law (fail)
        all_goals go_wp2_with fail
        have hz : Blk ((((w7.setCell ⟨w.heap.size + 1, 0, none⟩ (.slice b.a b.n b.c)).setCell ⟨w.heap.size + 1, 1, none⟩ (.slice wt.a wt.n wt.c)).setCell ⟨w.heap.size + 1, 2, none⟩ (.slice rd.a rd.n rd.c)).setCell ⟨w.heap.size + 1, 3, none⟩ (.slice (some ⟨g, o, none⟩) gn gc)).drew (w.heap.size + 1) #[.slice b.a b.n b.c, .slice wt.a wt.n wt.c, .slice rd.a rd.n rd.c, .slice (some ⟨g, o, none⟩) gn gc] 32 := ((((Q3c.out.set_ 0 (.slice b.a b.n b.c)).set_ 1 (.slice wt.a wt.n wt.c)).set_ 2 (.slice rd.a rd.n rd.c)).set_ 3 (.slice (some ⟨g, o, none⟩) gn gc)).drew
        have hbz : Below w.heap.size w ((((w7.setCell ⟨w.heap.size + 1, 0, none⟩ (.slice b.a b.n b.c)).setCell ⟨w.heap.size + 1, 1, none⟩ (.slice wt.a wt.n wt.c)).setCell ⟨w.heap.size + 1, 2, none⟩ (.slice rd.a rd.n rd.c)).setCell ⟨w.heap.size + 1, 3, none⟩ (.slice (some ⟨g, o, none⟩) gn gc)).drew := ((((Q4c.out.setCell (by simp) _).setCell (by simp) _).setCell (by simp) _).setCell (by simp) _).drew
        refine bodyPost_ret (v := .tuple #[.slice r.a r.n r.c, .agg #[.slice b.a b.n b.c, .slice wt.a wt.n wt.c, .slice rd.a rd.n rd.c, .slice (some ⟨g, o, none⟩) gn gc]]) (results_tmp1_row rfl _ _ (w.heap.size + 1) 32 _ (0, 0) _ rfl (.slice r.a r.n r.c) rfl hz Try.underlying32 rfl info_view) rfl ?_
        have hne : ∀ (q : Nat) (bb oo : Nat), r.a = some ⟨bb, oo, none⟩ → bb ≠ (⟨w.heap.size + 1, q, none⟩ : Addr).block := fun q bb oo hh => by have := HN7.out bb oo hh; simp; omega
        have hfin : Ss prE ((((w7.setCell ⟨w.heap.size + 1, 0, none⟩ (.slice b.a b.n b.c)).setCell ⟨w.heap.size + 1, 1, none⟩ (.slice wt.a wt.n wt.c)).setCell ⟨w.heap.size + 1, 2, none⟩ (.slice rd.a rd.n rd.c)).setCell ⟨w.heap.size + 1, 3, none⟩ (.slice (some ⟨g, o, none⟩) gn gc)).drew r (rangeL x y s.shown) := Ss.below (w := ((((w7.setCell ⟨w.heap.size + 1, 0, none⟩ (.slice b.a b.n b.c)).setCell ⟨w.heap.size + 1, 1, none⟩ (.slice wt.a wt.n wt.c)).setCell ⟨w.heap.size + 1, 2, none⟩ (.slice rd.a rd.n rd.c)).setCell ⟨w.heap.size + 1, 3, none⟩ (.slice (some ⟨g, o, none⟩) gn gc))) ⟨sl_far (sl_far (sl_far (sl_far HS7.out.1 (hne 0) _) (hne 1) _) (hne 2) _) (hne 3) _, HS7.out.2⟩ ((Below.refl _ _).drew)
        exact ⟨r, ⟨some ⟨g, o, none⟩, gn, gc⟩, rfl, by rw [HRO.out]; exact hfin, by rw [HSAME.out]; exact HD.out.below hbz, hbz, fun bb oo hh => by have := HN7.out bb oo hh; omega, .inl rfl⟩
      · have HE := Lib.hid he
        rcases (show (p.1.toList == x.toList) = false ∨ ((p.1.toList == x.toList) = true ∧ (p.2.toList == y.toList) = false) by
          by_cases h1 : p.1 = x
          · exact .inr ⟨neq_true h1, neq_false (fun h2 => HE.out ⟨h1, h2⟩)⟩
          · exact .inl (neq_false h1)) with z1 | ⟨z1, z2⟩
        all_goals
          clear he
          go_wp2_with fail
          go_round
          case rel => exact ⟨j + 1, by omega, by go_num, Lib.hid (fun i q hi hq => by
            rcases Nat.lt_or_ge i j with h | h
            · exact HN.out i q h hq
            · obtain rfl : i = j := by omega
              rw [HP.out] at hq
              injection hq with hq
              subst hq
              exact HE.out)⟩
          case measure => simp [intOf]; omega
    · obtain rfl : j = gn := by omega
      have HADD : Hid (s.ranged x y = { s with rg := s.rg ++ [(x, y)] }) := Lib.hid (by unfold Vs.ranged addR; rw [HK.out, if_pos rfl, if_neg (by rw [has_no (fun i p hi hp => HN.out i p (by rw [HLN.out] at hi; exact hi) hp)]; decide)])
      have hjm : j ≤ 1000 := hrg
      have HJM := Lib.hid hjm
      have hz7 : w.heap.size < w7.heap.size := by have := HZ7.out; omega
      clear hjm
      go_wp2_with (first
        | ((with_reducible refine pick (some 52) ?_); refine wpList_append_any rgE 58 rfl _ _ _ rfl Try.underlying22 info_rg rfl w7.heap.size _ _ _ rfl (So.new_ rgE _ w7 (Nat.le_refl _)) ga j gc s.rg rfl (HD.out.rg.1.below (Q4c.out.alloc Q4c.out.size _)) HSP.out (fun h => ⟨nil_len HD.out.rg.1 h, HNIL.out h⟩) (by have := HJM.out; unfold maxLen; omega) (by have := HJM.out; omega) (by simp) ?_; intro v8 w8 ho8 hg8; have HO8 := Lib.hid (show So rgE 58 w8 w7.heap.size v8 (0 + j) s.rg by simpa using ho8); have HB8 := Lib.hid (grown_below ((Below.refl _ _).alloc (Nat.le_refl _) _) (So.new_ rgE 58 w7 (Nat.le_refl _)) hg8); clear ho8 hg8)
        | ((with_reducible refine pick (some 58) ?_); refine wpList_append_lst rgE 58 rfl _ _ _ rfl Try.underlying22 info_rg rfl w7.heap.size _ _ s.rg rfl (HO8.out.below ((Below.refl _ _).alloc (Nat.le_refl _) _)) w8.heap.size 0 1 1 [(x, y)] rfl (Sl.new_ rgE w8 _ (x, y) _ rfl) _ rfl (s.rg ++ [(x, y)]) rfl (by have := HJM.out; unfold maxLen; omega) (by have := HJM.out; omega) (by have := HB8.out.size; simp; omega) ?_; intro v9 w9 ho9 hg9 _ _; have HB9 := Lib.hid (grown_below (HB8.out.alloc HB8.out.size _) (HO8.out.below ((Below.refl _ _).alloc (Nat.le_refl _) _)) hg9); obtain ⟨h, hv, hss, hbk⟩ := own_sl ho9; subst hv; have HSS := Lib.hid hss; have HBK := Lib.hid hbk; have Q1d := Lib.hid (Q1c.out.below HB9.out); have Q3d := Lib.hid (Q3c.out.below HB9.out); have Q4d := Lib.hid (keeps Q4c.out HB9.out); obtain a4 : w9.cell? ⟨w.heap.size, 3, none⟩ = some (.slice ga j gc) := Q1d.out.cell 3; obtain f4 : w9.frozen? ⟨w.heap.size, 3, none⟩ = false := Q1d.out.frozen 3; clear ho9 hg9 hss hbk))
      obtain ⟨W5, hW5⟩ : ∃ W5, w9.setCell ⟨w.heap.size, 3, none⟩ (.slice h.a h.n h.c) = W5 := ⟨_, rfl⟩
      have q1 : Blk W5 w.heap.size #[.slice b.a b.n b.c, .slice wt.a wt.n wt.c, .slice rd.a rd.n rd.c, .slice h.a h.n h.c] 32 := by rw [← hW5]; exact Q1d.out.set_ 3 _
      have q2 : Blk W5 (w.heap.size + 1) zeroV 32 := by rw [← hW5]; exact Q3d.out.far (by simp) _
      have q3 : Below w.heap.size w W5 := by rw [← hW5]; exact Q4d.out.setCell (Nat.le_refl _) _
      have q4 : Ss rgE W5 h (s.rg ++ [(x, y)]) := by
        rw [← hW5]
        exact ⟨sl_far HSS.out.1 (fun bb oo hh => by have h1 := HBK.out bb oo hh; have h2 := HZ7.out; simp; omega) _, HSS.out.2⟩
      have q5 : Ss prE W5 r (rangeL x y s.shown) := by
        rw [← hW5]
        have h0 := HS7.out.below HB9.out
        exact ⟨sl_far h0.1 (fun bb oo hh => by have h1 := HN7.out bb oo hh; simp; omega) _, h0.2⟩
      have HW4 := Lib.hid q4
      have HW5 := Lib.hid q5
      have HQ1 := Lib.hid q1
      have HQ2 := Lib.hid q2
      have HQ3 := Lib.hid q3
      change Code.wp _ _ _ _ (w9.setCell ⟨w.heap.size, 3, none⟩ (.slice h.a h.n h.c))
      rw [hW5]
      clear q1 q2 q3 q4 q5 hW5
      obtain ⟨d0, d1, d2, d3⟩ : W5.cell? ⟨w.heap.size, 0, none⟩ = some (.slice b.a b.n b.c) ∧ W5.cell? ⟨w.heap.size, 1, none⟩ = some (.slice wt.a wt.n wt.c) ∧ W5.cell? ⟨w.heap.size, 2, none⟩ = some (.slice rd.a rd.n rd.c) ∧ W5.cell? ⟨w.heap.size, 3, none⟩ = some (.slice h.a h.n h.c) := ⟨HQ1.out.cell 0, HQ1.out.cell 1, HQ1.out.cell 2, HQ1.out.cell 3⟩
      obtain ⟨r0, r1, r2, r3⟩ : W5.cell? ⟨w.heap.size + 1, 0, none⟩ = some (.slice none 0 0) ∧ W5.cell? ⟨w.heap.size + 1, 1, none⟩ = some (.slice none 0 0) ∧ W5.cell? ⟨w.heap.size + 1, 2, none⟩ = some (.slice none 0 0) ∧ W5.cell? ⟨w.heap.size + 1, 3, none⟩ = some (.slice none 0 0) := ⟨HQ2.out.cell 0, HQ2.out.cell 1, HQ2.out.cell 2, HQ2.out.cell 3⟩
      obtain ⟨f0, f2, f3, f4⟩ : W5.frozen? ⟨w.heap.size + 1, 0, none⟩ = false ∧ W5.frozen? ⟨w.heap.size + 1, 1, none⟩ = false ∧ W5.frozen? ⟨w.heap.size + 1, 2, none⟩ = false ∧ W5.frozen? ⟨w.heap.size + 1, 3, none⟩ = false := ⟨HQ2.out.frozen 0, HQ2.out.frozen 1, HQ2.out.frozen 2, HQ2.out.frozen 3⟩
      go_region_law (fail)
      all_goals go_wp2_with fail
      have hz : Blk ((((W5.setCell ⟨w.heap.size + 1, 0, none⟩ (.slice b.a b.n b.c)).setCell ⟨w.heap.size + 1, 1, none⟩ (.slice wt.a wt.n wt.c)).setCell ⟨w.heap.size + 1, 2, none⟩ (.slice rd.a rd.n rd.c)).setCell ⟨w.heap.size + 1, 3, none⟩ (.slice h.a h.n h.c)).drew (w.heap.size + 1) #[.slice b.a b.n b.c, .slice wt.a wt.n wt.c, .slice rd.a rd.n rd.c, .slice h.a h.n h.c] 32 := ((((HQ2.out.set_ 0 (.slice b.a b.n b.c)).set_ 1 (.slice wt.a wt.n wt.c)).set_ 2 (.slice rd.a rd.n rd.c)).set_ 3 (.slice h.a h.n h.c)).drew
      have hbz : Below w.heap.size w ((((W5.setCell ⟨w.heap.size + 1, 0, none⟩ (.slice b.a b.n b.c)).setCell ⟨w.heap.size + 1, 1, none⟩ (.slice wt.a wt.n wt.c)).setCell ⟨w.heap.size + 1, 2, none⟩ (.slice rd.a rd.n rd.c)).setCell ⟨w.heap.size + 1, 3, none⟩ (.slice h.a h.n h.c)).drew := ((((HQ3.out.setCell (by simp) _).setCell (by simp) _).setCell (by simp) _).setCell (by simp) _).drew
      refine bodyPost_ret (v := .tuple #[.slice r.a r.n r.c, .agg #[.slice b.a b.n b.c, .slice wt.a wt.n wt.c, .slice rd.a rd.n rd.c, .slice h.a h.n h.c]]) (results_tmp1_row rfl _ _ (w.heap.size + 1) 32 _ (0, 0) _ rfl (.slice r.a r.n r.c) rfl hz Try.underlying32 rfl info_view) rfl ?_
      have hne : ∀ (q : Nat) (bb oo : Nat), r.a = some ⟨bb, oo, none⟩ → bb ≠ (⟨w.heap.size + 1, q, none⟩ : Addr).block := fun q bb oo hh => by have := HN7.out bb oo hh; simp; omega
      have hne2 : ∀ (q : Nat) (bb oo : Nat), h.a = some ⟨bb, oo, none⟩ → bb ≠ (⟨w.heap.size + 1, q, none⟩ : Addr).block := fun q bb oo hh => by have h1 := HBK.out bb oo hh; have h2 := HZ7.out; simp; omega
      have hfin : Ss prE ((((W5.setCell ⟨w.heap.size + 1, 0, none⟩ (.slice b.a b.n b.c)).setCell ⟨w.heap.size + 1, 1, none⟩ (.slice wt.a wt.n wt.c)).setCell ⟨w.heap.size + 1, 2, none⟩ (.slice rd.a rd.n rd.c)).setCell ⟨w.heap.size + 1, 3, none⟩ (.slice h.a h.n h.c)).drew r (rangeL x y s.shown) := Ss.below (w := ((((W5.setCell ⟨w.heap.size + 1, 0, none⟩ (.slice b.a b.n b.c)).setCell ⟨w.heap.size + 1, 1, none⟩ (.slice wt.a wt.n wt.c)).setCell ⟨w.heap.size + 1, 2, none⟩ (.slice rd.a rd.n rd.c)).setCell ⟨w.heap.size + 1, 3, none⟩ (.slice h.a h.n h.c))) ⟨sl_far (sl_far (sl_far (sl_far HW5.out.1 (hne 0) _) (hne 1) _) (hne 2) _) (hne 3) _, HW5.out.2⟩ ((Below.refl _ _).drew)
      have hfin2 : Ss rgE ((((W5.setCell ⟨w.heap.size + 1, 0, none⟩ (.slice b.a b.n b.c)).setCell ⟨w.heap.size + 1, 1, none⟩ (.slice wt.a wt.n wt.c)).setCell ⟨w.heap.size + 1, 2, none⟩ (.slice rd.a rd.n rd.c)).setCell ⟨w.heap.size + 1, 3, none⟩ (.slice h.a h.n h.c)).drew h (s.rg ++ [(x, y)]) := Ss.below (w := ((((W5.setCell ⟨w.heap.size + 1, 0, none⟩ (.slice b.a b.n b.c)).setCell ⟨w.heap.size + 1, 1, none⟩ (.slice wt.a wt.n wt.c)).setCell ⟨w.heap.size + 1, 2, none⟩ (.slice rd.a rd.n rd.c)).setCell ⟨w.heap.size + 1, 3, none⟩ (.slice h.a h.n h.c))) ⟨sl_far (sl_far (sl_far (sl_far HW4.out.1 (hne2 0) _) (hne2 1) _) (hne2 2) _) (hne2 3) _, HW4.out.2⟩ ((Below.refl _ _).drew)
      exact ⟨r, h, rfl, by rw [HRO.out]; exact hfin, by rw [HADD.out]; exact ⟨HD.out.base.below hbz, HD.out.wr.below hbz, HD.out.rd.below hbz, hfin2⟩, hbz, fun bb oo hh => by have := HN7.out bb oo hh; omega, .inr fun bb oo hh => by have h1 := HBK.out bb oo hh; have h2 := HZ7.out; omega⟩
/-- The document's Range, whatever is asked. -/
theorem refrange_view (s : Vs) (b wt rd rg : Sh) (x y : ByteArray) (w : World) (hd : Dv w s b wt rd rg) (hb : s.base.length ≤ 1000) (hrg : s.rg.length ≤ 1000) (hok : s.Ok) :
    Calls Try.prog 30 #[.agg #[.slice b.a b.n b.c, .slice wt.a wt.n wt.c, .slice rd.a rd.n rd.c, .slice rg.a rg.n rg.c], .string x, .string y] w (RgR s x y b wt rd rg w) := by
  cases hk : kl x y with
  | true => exact range_yes s b wt rd rg x y w hd hb hrg hok hk
  | false => exact range_no s b wt rd rg x y w hd hb hrg hok hk
end Go.Proofs.Ytdnenikplajmaaa.ViewS
