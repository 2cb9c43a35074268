/- Layer 10's law TreePlays, over what the project's functions are asked. -/
import Derived.Test.YtmbgbdhanobphaaTreeN
import Derived.Deep.RegionHeld3
namespace Go.Proofs.Ytmbgbdhanobphaa.TreeP
set_option linter.unusedVariables false
set_option linter.unusedSimpArgs false
open Go.RowKit
open Go.Proofs.Ytmbgbdhanobphaa.Byte Go.Proofs.Ytmbgbdhanobphaa.KeysM Go.Proofs.Ytmbgbdhanobphaa.TreeM Go.Proofs.Ytmbgbdhanobphaa.Own Go.Proofs.Ytmbgbdhanobphaa.Rw Go.Proofs.Ytmbgbdhanobphaa.Lst Go.Proofs.Ytmbgbdhanobphaa.TreeR Go.Proofs.Ytmbgbdhanobphaa.TreeS Go.Proofs.Ytmbgbdhanobphaa.TreeC Go.Proofs.Ytmbgbdhanobphaa.TreeL Go.Proofs.Ytmbgbdhanobphaa.TreeT Go.Proofs.Ytmbgbdhanobphaa.TreeN
variable {Rep : World → Value → List Pr → Nat → Prop}

def ptE : Enc (Option Addr) := ⟨fun a => [.pointer a], 1, fun _ => rfl, fun x u hu => by
  rw [List.mem_singleton] at hu
  subst hu
  rfl, by decide⟩
/-- A slice's head. -/
structure Hd where
  a : Option Addr
  n : Nat
  c : Nat
def slE : Enc Hd := ⟨fun r => [.slice r.a r.n r.c], 1, fun _ => rfl, fun x u hu => by
  rw [List.mem_singleton] at hu
  subst hu
  rfl, by decide⟩
abbrev PT : TypeId := 24
abbrev ST : TypeId := 32
theorem info_pt : (Try.prog.info? 24).map (fun i => (i.zero, i.size, i.bytes)) = some (some (.pointer none), ptE.size, 8) := by kernel_rfl
theorem info_st : (Try.prog.info? 32).map (fun i => (i.zero, i.size, i.bytes)) = some (some (.slice none 0 0), slE.size, 24) := by kernel_rfl
/-- A version and its row. -/
def Good (Rep : World → Value → List Pr → Nat → Prop) (w : World) (base k : Nat) (p : Option Addr) (r : Hd) : Prop :=
  ∃ K h, Rep w (.pointer p) K h ∧ So prE 60 w base (.slice r.a r.n r.c) r.n K ∧ K.length ≤ k ∧ ∀ q ∈ K, q.key.size ≤ maxLen
def Goods (Rep : World → Value → List Pr → Nat → Prop) (w : World) (base k n : Nat) (P : List (Option Addr)) (R : List Hd) : Prop :=
  ∀ j, j < n → ∃ p r, P[j]? = some p ∧ R[j]? = some r ∧ Good Rep w base k p r
theorem Good.below {w w' : World} {base k : Nat} {p : Option Addr} {r : Hd} (hT : Tr Rep) (h : Good Rep w base k p r) (hb : Below w.heap.size w w') : Good Rep w' base k p r := by
  obtain ⟨K, h, h1, h2, h3⟩ := h
  exact ⟨K, h, hT.below h1 hb, h2.below hb, h3⟩
theorem Good.grown {α : Type} {e : Enc α} {T : TypeId} {n : Nat} {v : Value} {L : List α} {w w' : World} {base base' k : Nat} {p : Option Addr} {r : Hd} (hT : Tr Rep) (h : Good Rep w base k p r) (ho : So e T w base' v n L) (hg : w.grownBy w' v.ownBlock) (h1 : 56 ≠ T ∧ 63 ≠ T) (h2 : 60 ≠ T) : Good Rep w' base k p r := by
  obtain ⟨K, h, hr, hs, h3⟩ := h
  exact ⟨K, h, hT.keep hr (Kept.of_grown ho hg h1), hs.grown hg (hs.ne ho h2), h3⟩
theorem Good.mono {w : World} {base k k' : Nat} {p : Option Addr} {r : Hd} (h : Good Rep w base k p r) (hk : k ≤ k') : Good Rep w base k' p r := by
  obtain ⟨K, h, hr, hs, h3, h4⟩ := h
  exact ⟨K, h, hr, hs, by omega, h4⟩
theorem Goods.map {w w' : World} {base k k' n : Nat} {P : List (Option Addr)} {R : List Hd} (h : Goods Rep w base k n P R) (f : ∀ p r, Good Rep w base k p r → Good Rep w' base k' p r) : Goods Rep w' base k' n P R := fun j hj => by
  obtain ⟨p, r, h1, h2, h3⟩ := h j hj
  exact ⟨p, r, h1, h2, f p r h3⟩
theorem Goods.snoc {w : World} {base k n : Nat} {P : List (Option Addr)} {R : List Hd} (h : Goods Rep w base k n P R) (hP : P.length = n) (hR : R.length = n) {p : Option Addr} {r : Hd} (hg : Good Rep w base k p r) : Goods Rep w base k (n + 1) (P ++ [p]) (R ++ [r]) := fun j hj => by
  rcases Nat.lt_or_ge j n with h1 | h1
  · obtain ⟨p', r', h2, h3, h4⟩ := h j h1
    exact ⟨p', r', by rw [List.getElem?_append_left (by omega), h2], by rw [List.getElem?_append_left (by omega), h3], h4⟩
  · obtain rfl : j = n := by omega
    exact ⟨p, r, by rw [List.getElem?_append_right (by omega), hP]; simp, by rw [List.getElem?_append_right (by omega), hR]; simp, hg⟩
theorem one_cell {α : Type} {e : Enc α} {T : TypeId} {w : World} {base g n c : Nat} {L : List α} (h : So e T w base (.slice (some ⟨g, 0, none⟩) n c) n L) (he : e.size = 1) {j : Nat} {x : α} (hx : L[j]? = some x) {u : Value} (hu : (e.cells x)[0]? = some u) : w.cell? ⟨g, j, none⟩ = some u := by
  have := (h.sl.at_ j x hx).2 0 u hu
  rw [he, Nat.mul_one, Nat.zero_add, Nat.add_zero] at this
  exact this
theorem hd_of {w : World} {base n : Nat} {v : Value} {K : List Pr} (h : So prE 60 w base v n K) : ∃ r : Hd, v = .slice r.a r.n r.c ∧ So prE 60 w base (.slice r.a r.n r.c) r.n K := by
  rcases h.form with ⟨rfl, rfl⟩ | ⟨g, cap, rfl, _⟩
  · exact ⟨⟨none, 0, 0⟩, rfl, h⟩
  · exact ⟨⟨some ⟨g, 0, none⟩, n, cap⟩, rfl, h⟩
theorem got_form (o : Option Pr) : ∃ s b, GotV o = .tuple #[.string s, .bool b] := by
  cases o with
  | none => exact ⟨_, _, rfl⟩
  | some p => exact ⟨_, _, rfl⟩
theorem get_got {w : World} {v : Value} {L : List Pr} {h : Nat} {key : ByteArray} {u : Value} (hT : Tr Rep) (hr : Rep w v L h) (hl : L.length ≤ 50000) (hk : key.size ≤ maxLen) (hu : GotV (getL key L) = u) : Calls Try.prog 14 #[v, .string key] w fun e w' => e = .returned u ∧ Below w.heap.size w w' := by
  subst hu
  exact hT.get key hr hl hk
theorem refget_got {A : Option Addr} {n c : Nat} {L : List Pr} {key : ByteArray} {u : Value} {w : World} (hl : Sl prE w A n L) (hn : n ≤ 100000) (hu : GotV (getL key L) = u) : Calls Try.prog 15 #[.slice A n c, .string key] w fun e w' => e = .returned u ∧ w = w' := by
  subst hu
  exact refget_calls A n c L key w hl hn
theorem rank_got {w : World} {v : Value} {L : List Pr} {h : Nat} {key : ByteArray} {q : Nat} (hT : Tr Rep) (hr : Rep w v L h) (hl : L.length ≤ 50000) (hk : key.size ≤ maxLen) (hq : rankL key L = q) : Calls Try.prog 17 #[v, .string key] w fun e w' => e = .returned (.int .i64 (q : Nat)) ∧ Below w.heap.size w w' := by
  subst hq
  exact hT.rank key hr hl hk
theorem refrank_got {A : Option Addr} {n c : Nat} {L : List Pr} {key : ByteArray} {q : Nat} {w : World} (hl : Sl prE w A n L) (hn : n ≤ 100000) (hq : rankL key L = q) : Calls Try.prog 18 #[.slice A n c, .string key] w fun e w' => e = .returned (.int .i64 (q : Nat)) ∧ w = w' := by
  subst hq
  exact refrank_calls A n c L key w hl hn
/-- One more version: what it leaves of all else. -/
theorem app_step {w w4 w5 : World} {v u : Value} {n k : Nat} {P : List (Option Addr)} {R : List Hd} {p : Option Addr} {r : Hd} {x : Obj} (hT : Tr Rep) (hR : So slE ST w4 w.heap.size u n R) (hV : So ptE PT w4 w.heap.size v n P) (hG : Goods Rep w4 w.heap.size k n P R) (hg : Good Rep w4 w.heap.size (k + 1) p r) (hb : Below w.heap.size w w4) (hgr : (w4.alloc x).grownBy w5 v.ownBlock) :
    So slE ST w5 w.heap.size u n R ∧ Goods Rep w5 w.heap.size k n P R ∧ Good Rep w5 w.heap.size (k + 1) p r ∧ Below w.heap.size w w5 := by
  have hx : Below w4.heap.size w4 (w4.alloc x) := (Below.refl _ _).alloc (Nat.le_refl _) _
  have hV' := hV.below hx
  refine ⟨(hR.below hx).grown hgr ((hR.below hx).ne hV' (by decide)), hG.map fun p r h => (h.below hT hx).grown hT hV' hgr (by decide) (by decide), (hg.below hT hx).grown hT hV' hgr (by decide) (by decide), ?_⟩
  exact (keeps hb hx).grown hgr (by have := hb.size; simp; omega) (fun g hv => (hV.lt hv).1)
theorem app_step2 {w w4 w5 : World} {v u : Value} {n m k : Nat} {P Q : List (Option Addr)} {R : List Hd} {p : Option Addr} {r : Hd} {x : Obj} (hT : Tr Rep) (hR : So slE ST w4 w.heap.size u n R) (hV : So ptE PT w4 w.heap.size v m Q) (hG : Goods Rep w4 w.heap.size k n P R) (hg : Good Rep w4 w.heap.size (k + 1) p r) (hb : Below w.heap.size w w4) (hgr : (w4.alloc x).grownBy w5 u.ownBlock) :
    So ptE PT w5 w.heap.size v m Q ∧ Goods Rep w5 w.heap.size k n P R ∧ Good Rep w5 w.heap.size (k + 1) p r ∧ Below w.heap.size w w5 := by
  have hx : Below w4.heap.size w4 (w4.alloc x) := (Below.refl _ _).alloc (Nat.le_refl _) _
  have hR' := hR.below hx
  refine ⟨(hV.below hx).grown hgr ((hV.below hx).ne hR' (by decide)), hG.map fun p r h => (h.below hT hx).grown hT hR' hgr (by decide) (by decide), (hg.below hT hx).grown hT hR' hgr (by decide) (by decide), ?_⟩
  exact (keeps hb hx).grown hgr (by have := hb.size; simp; omega) (fun g hv => (hR.lt hv).1)
set_option maxRecDepth 100000 in
set_option maxHeartbeats 8000000 in
theorem plays_law (hT : Tr Rep) (hF : FixOk) (A : Option Addr) (n c : Nat) (L : List Op10) (fr to : ByteArray) (w : World) (hl : Sl opE w A n L) (hn : n ≤ c) (hc : c ≤ maxLen) (hf : ∀ p ∈ L, fitOp p) (hfr : fr.size ≤ maxLen) (hto : to.size ≤ maxLen) :
    Calls Try.prog 3 #[.slice A n c, .string fr, .string to] w fun e w' => e = .returned (.bool true) ∧ Below w.heap.size w w' := by
  have HT := Lib.hid hT
  have HF := Lib.hid hF
  have HL := Lib.hid hl
  have HC := Lib.hid (fun (v : World) (hb : Below w.heap.size w v) => cut_calls A n c L v (hl.below hb) hn hc hf)
  have HFIT := Lib.hid hf
  have HFR := Lib.hid hfr
  have HTO := Lib.hid hto
  unfold maxLen at hfr hto
  clear hT hF hl hf hn hc
  rcases (show 300 < fr.size ∨ (fr.size ≤ 300 ∧ 300 < to.size) ∨ (fr.size ≤ 300 ∧ to.size ≤ 300) by omega) with q | ⟨q, q2⟩ | ⟨q, q2⟩
  · have d : decide ((300 : Int) < (fr.size : Int)) = true := decide_eq_true (by omega)
    go_enter Try.func3, Try.ntmps3
    go_wp2_with fail
    refine (HF.out _).mono ?_
    rintro e w7 ⟨rfl, hb7⟩
    have HB7 := Lib.hid hb7
    clear hb7
    go_wp2_with fail
    go_ret
    exact ⟨rfl, HB7.out⟩
  · have d : decide ((300 : Int) < (fr.size : Int)) = false := decide_eq_false (by omega)
    have d2 : decide ((300 : Int) < (to.size : Int)) = true := decide_eq_true (by omega)
    go_enter Try.func3, Try.ntmps3
    go_wp2_with fail
    refine (HF.out _).mono ?_
    rintro e w7 ⟨rfl, hb7⟩
    have HB7 := Lib.hid hb7
    clear hb7
    go_wp2_with fail
    go_ret
    exact ⟨rfl, HB7.out⟩
  · have d : decide ((300 : Int) < (fr.size : Int)) = false := decide_eq_false (by omega)
    have d2 : decide ((300 : Int) < (to.size : Int)) = false := decide_eq_false (by omega)
    go_enter Try.func3, Try.ntmps3
    go_wp2_with fail
    refine (HT.out.new _).mono ?_
    rintro e w1 ⟨v0, g0, rfl, hr0, hb1⟩
    obtain ⟨p0, rfl⟩ := HT.out.form hr0
    have hbw1 : Below w1.heap.size w1 ((w1.alloc (.cells #[.pointer p0] PT)).alloc (.cells #[.slice none 0 0] ST)) := ((Below.refl _ _).alloc (Nat.le_refl _) _).alloc (by simp) _
    have hw1 := hb1.size
    have HB2 := Lib.hid (keeps hb1 hbw1)
    have HV0 := Lib.hid ((So.lit ptE PT w1 (base := w.heap.size) [p0] #[.pointer p0] 1 rfl rfl hw1 (by decide)).below ((Below.refl _ _).alloc (Nat.le_refl _) (.cells #[.slice none 0 0] ST)))
    have hw0 := So.lit slE ST (w1.alloc (.cells #[.pointer p0] PT)) (base := w.heap.size) [⟨none, 0, 0⟩] #[.slice none 0 0] 1 rfl rfl (by simp; omega) (by decide)
    rw [show (w1.alloc (.cells #[.pointer p0] PT)).heap.size = w1.heap.size + 1 by simp] at hw0
    have HW0 := Lib.hid hw0
    have HG0 : Hid (Goods Rep ((w1.alloc (.cells #[.pointer p0] PT)).alloc (.cells #[.slice none 0 0] ST)) w.heap.size 0 1 [p0] [⟨none, 0, 0⟩]) := Lib.hid (fun j hj => by
      obtain rfl : j = 0 := by omega
      exact ⟨p0, ⟨none, 0, 0⟩, rfl, rfl, [], g0, HT.out.below hr0 hbw1, So.nil_ _ _ _ _, Nat.le_refl _, fun q hq => by simp at hq⟩)
    clear hr0 hb1 hbw1 hw0
    go_wp2_with fail
    refine (HC.out _ HB2.out).mono ?_
    rintro e w2 ⟨m, rfl, hm1, hm2, hok, hb2⟩
    have HOK := Lib.hid hok
    have HV2 := Lib.hid (HV0.out.below hb2)
    have HW2 := Lib.hid (HW0.out.below hb2)
    have HG2 := Lib.hid (HG0.out.map fun p r h => h.below HT.out hb2)
    have HB3 := Lib.hid (keeps HB2.out hb2)
    clear hok hb2 HB2 HV0 HW0 HG0
    go_wp2
    go_loopw [7, 8, 35] (fun vv rv i wr => ∃ (k n1 : Nat) (P : List (Option Addr)) (R : List Hd), k ≤ m ∧ i = .int .i64 k ∧ Hid (n1 = k + 1) ∧ So ptE PT wr w.heap.size vv n1 P ∧ So slE ST wr w.heap.size rv n1 R ∧ Goods Rep wr w.heap.size k n1 P R ∧ Below w.heap.size w wr) (fun _ _ i _ => m - (intOf i).toNat)
    case atStart => exact ⟨0, 1, [p0], _, Nat.zero_le _, rfl, Lib.hid rfl, HV2.out, HW2.out, HG2.out, HB3.out⟩
    case round =>
      obtain ⟨k, n1, P, R, hk, rfl, HN1, hv, hw, hgs, hbel⟩ := hrel
      have hn1 := HN1.out
      have hn1a : k < n1 := by omega
      have hn1b : n1 ≤ k + 1 := by omega
      clear hn1 HV2 HW2 HG2 HB3
      rcases hv.form with ⟨_, h0⟩ | ⟨gv, cv, rfl, hgv1, hgv2, _, _⟩
      · omega
      rcases hw.form with ⟨_, h0⟩ | ⟨gr, cr, rfl, hgr1, hgr2, _, _⟩
      · omega
      have HV := Lib.hid hv
      have HW := Lib.hid hw
      have HG := Lib.hid hgs
      have HBL := Lib.hid hbel
      by_cases hlt : k < m
      · obtain ⟨x, g, o, hx, rfl, hg, hcl⟩ := (HL.out.below hbel).get k (by omega)
        obtain ⟨_, _, _, _, hc3⟩ := op_cells hcl
        have HX := Lib.hid hc3
        have hokx := HOK.out x (List.mem_of_getElem? (by rw [List.getElem?_take_of_lt hlt]; exact hx))
        obtain ⟨kind, from_, key, value⟩ := x
        have f1 : key.size ≤ 200 := hokx.1
        have f2 : value.size ≤ 200 := hokx.2
        have hfit := HFIT.out _ (List.mem_of_getElem? hx)
        have hf0 : 0 ≤ from_ := hfit.2.1.1
        have hf1 : from_ ≤ 65535 := hfit.2.1.2
        obtain ⟨q1, hq1⟩ : ∃ q1 : Nat, from_ % (n1 : Int) = (q1 : Int) := ⟨(from_ % (n1 : Int)).toNat, by have := Int.emod_nonneg from_ (show (n1 : Int) ≠ 0 by omega); omega⟩
        have hqn : q1 < n1 := by have := Int.emod_lt_of_pos from_ (show (0 : Int) < (n1 : Int) by omega); omega
        have hqi : (q1 : Int) < (n1 : Int) := by omega
        have htm : from_.tmod (n1 : Int) = (q1 : Int) := by rw [Int.tmod_eq_emod_of_nonneg hf0, hq1]
        have f0 : ¬ n1 = 0 := by omega
        have r1 : IntKind.i64.wrap from_ = from_ := by rw [IntKind.wrap_i64]; omega
        obtain ⟨p1, r, hp1, hrr, hgd⟩ := hgs q1 hqn
        have hbx : Below wr.heap.size wr (wr.alloc (.cells #[.int .i64 kind, .int .u16 from_, .string key, .string value] 31)) := (Below.refl _ _).alloc (Nat.le_refl _) _
        have HB1 := Lib.hid (keeps hbel hbx)
        have HV1 := Lib.hid (hv.below hbx)
        have HW1 := Lib.hid (hw.below hbx)
        have HG1 := Lib.hid (hgs.map fun p r h => h.below HT.out hbx)
        have HGD := Lib.hid (hgd.below HT.out hbx)
        have HBK := Lib.hid (Blk.new_ wr #[.int .i64 kind, .int .u16 from_, .string key, .string value] 31)
        have k0 := HBK.out.cell 0
        have kv := one_cell (hv.below hbx) rfl hp1 rfl
        have kr := one_cell (hw.below hbx) rfl hrr rfl
        have hbs := hbel.size
        clear hcl hc3 hx hbel hbx hokx hv hw hgs hgd HV HW HG HBL hp1 hrr hfit
        go_wp2_with ((with_reducible refine pick (some 38) ?_); refine wpList_load_mid rfl 31 _ rfl g (o + k * 4) rfl [.int .i64 kind, .int .u16 from_, .string key, .string value] _ HX.out Try.underlying31 rfl info_op4 ?_)
        go_quiet (fail)
        obtain ⟨W2, hW2⟩ : ∃ W, (wr.alloc (.cells #[.int .i64 kind, .int .u16 from_, .string key, .string value] 31)).drewN nq = W := ⟨_, rfl⟩
        have hb12 : Below (wr.alloc (.cells #[.int .i64 kind, .int .u16 from_, .string key, .string value] 31)).heap.size (wr.alloc (.cells #[.int .i64 kind, .int .u16 from_, .string key, .string value] 31)) W2 := by
          rw [← hW2]
          exact below_drewN' (Below.refl _ _) nq
        obtain ⟨K, hh, hrp, hso, hkl, hks⟩ := HGD.out
        have HB2 := Lib.hid (keeps HB1.out hb12)
        have HV2 := Lib.hid (HV1.out.below hb12)
        have HW2 := Lib.hid (HW1.out.below hb12)
        have HG2 := Lib.hid (HG1.out.map fun p r h => h.below HT.out hb12)
        have HBK2 := Lib.hid (HBK.out.below hb12)
        have HRP := Lib.hid (HT.out.below hrp hb12)
        have HSO := Lib.hid (hso.below hb12)
        have HKS := Lib.hid hks
        have HKR := Lib.hid (HT.out.rise hrp)
        have hkl2 : r.n ≤ 200 := by have := hso.1; omega
        rw [hW2]
        have k0' := HBK2.out.cell 0
        clear hW2 hb12 hrp hso hks HB1 HV1 HW1 HG1 HBK HGD k0 kv kr htm r1
        have RD : Hid (∀ v, Below W2.heap.size W2 v → Below W2.heap.size W2 v ∧ v.cell? ⟨wr.heap.size, 2, none⟩ = some (.string key) ∧ v.cell? ⟨wr.heap.size, 3, none⟩ = some (.string value)) := Lib.hid fun v hv => ⟨hv, (HBK2.out.below hv).cell 2, (HBK2.out.below hv).cell 3⟩
        cases hk0 : (kind == 0) with
        | true =>
          go_wp2
          refine wp_region_noPanic ?_
          go_region_held3 (fun v => Below W2.heap.size W2 v ∧ v.cell? ⟨wr.heap.size, 2, none⟩ = some (.string key) ∧ v.cell? ⟨wr.heap.size, 3, none⟩ = some (.string value))
            (first
              | exact RD.out _ (Below.refl _ _)
              | exact RD.out _ (by assumption)
              | exact RD.out _ (below_drewN (Below.refl _ _) _)
              | exact RD.out _ (Below.drew (by assumption))
              | exact RD.out _ (Below.drew (Below.refl _ _))
              | exact RD.out _ (And.left (by assumption)))
            (first
              | (go_at_call 10; refine (HT.out.set key value (HT.out.below HRP.out (And.left (by assumption))) (by omega) (fits f1 (by omega)) (fits f2 (by omega))).mono ?_; rintro e w3 ⟨v', h', rfl, hr3, hb3⟩; have hn3 : Below W2.heap.size W2 w3 := keeps (And.left (by assumption)) hb3; have HR3 := Lib.hid hr3; clear hr3 hb3)
              | (go_at_call 11; refine (refset_calls r.a r.n r.c K key value _ (HSO.out.below (And.left (by assumption))).sl (by omega) HKR.out).mono ?_; rintro e w4 ⟨vr, rfl, ho4, hb4⟩; have hn4 : Below W2.heap.size W2 w4 := keeps (And.left (by assumption)) hb4; have HO4 := Lib.hid ho4; have HB4 := Lib.hid hb4; clear ho4 hb4))
          have HR5 := Lib.hid (HT.out.below HR3.out HB4.out)
          have HO5 := Lib.hid (HO4.out.lower (base' := w.heap.size) (by have := HB2.out.size; have := hn3.size; omega))
          have HV4 := Lib.hid (HV2.out.below hn4)
          have HW4 := Lib.hid (HW2.out.below hn4)
          have HG4 := Lib.hid (HG2.out.map fun p r h => h.below HT.out hn4)
          have HB5 := Lib.hid (keeps HB2.out hn4)
          have HKS5 : Hid (∀ q ∈ putL key value K, q.key.size ≤ maxLen) := Lib.hid (fun q hq => (mem_put hq).elim (fun e => by rw [e]; exact fits f1 (by omega)) (fun e => HKS.out q e.1))
          have hkl5 : (putL key value K).length ≤ k + 1 := Nat.le_trans (put_len _ _ _) (by omega)
          clear HO4 HB4 HR3 hn3 hn4 HV2 HW2 HG2 HB2 RD HSO HRP HBK2
          refine NoPanic.normal ?_
          generalize putL key value K = K' at HR5 HO5 HKS5 hkl5
          obtain ⟨p', rfl⟩ := HT.out.form HR5.out
          obtain ⟨r', rfl, hr'⟩ := hd_of HO5.out
          have HGD5 : Hid (Good Rep w4 w.heap.size (k + 1) p' r') := Lib.hid ⟨K', h', HR5.out, hr', hkl5, HKS5.out⟩
          have hbs4 := HB5.out.size
          clear hr' HR5 HO5 HKS5
          go_wp2_with (first
            | ((with_reducible refine pick (some 79) ?_); refine wpList_append_lst ptE PT rfl _ _ _ rfl Try.underlying26 info_pt rfl w.heap.size (.slice (some ⟨gv, 0, none⟩) n1 cv) n1 P rfl (HV4.out.below ((Below.refl _ _).alloc (Nat.le_refl _) _)) w4.heap.size 0 1 1 [p'] rfl (Sl.new_ ptE w4 _ p' _ rfl) (n1 + 1) rfl _ rfl (by unfold maxLen; omega) (by omega) (by simp; omega) ?_; intro vv' w5 hv5 hg5 _ _; have hx5 := app_step HT.out HW4.out HV4.out HG4.out HGD5.out HB5.out hg5; have HX5 := Lib.hid hx5; have HV5 := Lib.hid hv5; have hbs5 := hx5.2.2.2.size; clear hv5 hg5 hx5)
            | ((with_reducible refine pick (some 83) ?_); refine wpList_append_lst slE ST rfl _ _ _ rfl Try.underlying27 info_st rfl w.heap.size (.slice (some ⟨gr, 0, none⟩) n1 cr) n1 R rfl (HX5.out.1.below ((Below.refl _ _).alloc (Nat.le_refl _) _)) w5.heap.size 0 1 1 [r'] rfl (Sl.new_ slE w5 _ r' _ rfl) (n1 + 1) rfl _ rfl (by unfold maxLen; omega) (by omega) (by simp; omega) ?_; intro rv' w6 hw6 hg6 _ _; have hx6 := app_step2 HT.out HX5.out.1 HV5.out HX5.out.2.1 HX5.out.2.2.1 HX5.out.2.2.2 hg6; have HX6 := Lib.hid hx6; have HW6 := Lib.hid hw6; clear hw6 hg6 hx6))
          go_roundw
          case rel =>
            have hPl : P.length = n1 := HV4.out.1
            have hRl : R.length = n1 := HW4.out.1
            exact ⟨k + 1, n1 + 1, _, _, by omega, by go_num, Lib.hid (by have := HN1.out; omega), HX6.out.1, HW6.out, (HX6.out.2.1.map fun p r h => h.mono (by omega)).snoc hPl hRl HX6.out.2.2.1, HX6.out.2.2.2⟩
          case measure => simp [intOf]; omega
        | false =>
          go_wp2
          refine wp_region_noPanic ?_
          go_region_held3 (fun v => Below W2.heap.size W2 v ∧ v.cell? ⟨wr.heap.size, 2, none⟩ = some (.string key) ∧ v.cell? ⟨wr.heap.size, 3, none⟩ = some (.string value))
            (first
              | exact RD.out _ (Below.refl _ _)
              | exact RD.out _ (by assumption)
              | exact RD.out _ (below_drewN (Below.refl _ _) _)
              | exact RD.out _ (Below.drew (by assumption))
              | exact RD.out _ (Below.drew (Below.refl _ _))
              | exact RD.out _ (And.left (by assumption)))
            (first
              | (go_at_call 12; refine (HT.out.cut key (HT.out.below HRP.out (And.left (by assumption))) (by omega) (fits f1 (by omega))).mono ?_; rintro e w3 ⟨v', h', rfl, hr3, hb3⟩; have hn3 : Below W2.heap.size W2 w3 := keeps (And.left (by assumption)) hb3; have HR3 := Lib.hid hr3; clear hr3 hb3)
              | (go_at_call 13; refine (refcut_calls r.a r.n r.c K key _ (HSO.out.below (And.left (by assumption))).sl (by omega)).mono ?_; rintro e w4 ⟨vr, rfl, ho4, hb4⟩; have hn4 : Below W2.heap.size W2 w4 := keeps (And.left (by assumption)) hb4; have HO4 := Lib.hid ho4; have HB4 := Lib.hid hb4; clear ho4 hb4))
          have HR5 := Lib.hid (HT.out.below HR3.out HB4.out)
          have HO5 := Lib.hid (HO4.out.lower (base' := w.heap.size) (by have := HB2.out.size; have := hn3.size; omega))
          have HV4 := Lib.hid (HV2.out.below hn4)
          have HW4 := Lib.hid (HW2.out.below hn4)
          have HG4 := Lib.hid (HG2.out.map fun p r h => h.below HT.out hn4)
          have HB5 := Lib.hid (keeps HB2.out hn4)
          have HKS5 : Hid (∀ q ∈ cutL key K, q.key.size ≤ maxLen) := Lib.hid (fun q hq => HKS.out q (List.mem_filter.1 hq).1)
          have hkl5 : (cutL key K).length ≤ k + 1 := Nat.le_trans (cut_len _ _) (by omega)
          clear HO4 HB4 HR3 hn3 hn4 HV2 HW2 HG2 HB2 RD HSO HRP HBK2
          refine NoPanic.normal ?_
          generalize cutL key K = K' at HR5 HO5 HKS5 hkl5
          obtain ⟨p', rfl⟩ := HT.out.form HR5.out
          obtain ⟨r', rfl, hr'⟩ := hd_of HO5.out
          have HGD5 : Hid (Good Rep w4 w.heap.size (k + 1) p' r') := Lib.hid ⟨K', h', HR5.out, hr', hkl5, HKS5.out⟩
          have hbs4 := HB5.out.size
          clear hr' HR5 HO5 HKS5
          go_wp2_with (first
            | ((with_reducible refine pick (some 79) ?_); refine wpList_append_lst ptE PT rfl _ _ _ rfl Try.underlying26 info_pt rfl w.heap.size (.slice (some ⟨gv, 0, none⟩) n1 cv) n1 P rfl (HV4.out.below ((Below.refl _ _).alloc (Nat.le_refl _) _)) w4.heap.size 0 1 1 [p'] rfl (Sl.new_ ptE w4 _ p' _ rfl) (n1 + 1) rfl _ rfl (by unfold maxLen; omega) (by omega) (by simp; omega) ?_; intro vv' w5 hv5 hg5 _ _; have hx5 := app_step HT.out HW4.out HV4.out HG4.out HGD5.out HB5.out hg5; have HX5 := Lib.hid hx5; have HV5 := Lib.hid hv5; have hbs5 := hx5.2.2.2.size; clear hv5 hg5 hx5)
            | ((with_reducible refine pick (some 83) ?_); refine wpList_append_lst slE ST rfl _ _ _ rfl Try.underlying27 info_st rfl w.heap.size (.slice (some ⟨gr, 0, none⟩) n1 cr) n1 R rfl (HX5.out.1.below ((Below.refl _ _).alloc (Nat.le_refl _) _)) w5.heap.size 0 1 1 [r'] rfl (Sl.new_ slE w5 _ r' _ rfl) (n1 + 1) rfl _ rfl (by unfold maxLen; omega) (by omega) (by simp; omega) ?_; intro rv' w6 hw6 hg6 _ _; have hx6 := app_step2 HT.out HX5.out.1 HV5.out HX5.out.2.1 HX5.out.2.2.1 HX5.out.2.2.2 hg6; have HX6 := Lib.hid hx6; have HW6 := Lib.hid hw6; clear hw6 hg6 hx6))
          go_roundw
          case rel =>
            have hPl : P.length = n1 := HV4.out.1
            have hRl : R.length = n1 := HW4.out.1
            exact ⟨k + 1, n1 + 1, _, _, by omega, by go_num, Lib.hid (by have := HN1.out; omega), HX6.out.1, HW6.out, (HX6.out.2.1.map fun p r h => h.mono (by omega)).snoc hPl hRl HX6.out.2.2.1, HX6.out.2.2.2⟩
          case measure => simp [intOf]; omega
      · obtain rfl : k = m := by omega
        rename World => wo
        clear hv hw hgs hbel HOK HL HFIT HC
        go_wp2
        go_loopw [87] (fun i wr => ∃ j : Nat, j ≤ n1 ∧ i = .int .i64 j ∧ Below wo.heap.size wo wr) (fun i _ => n1 - (intOf i).toNat)
        case atStart => exact ⟨0, Nat.zero_le _, rfl, Below.refl _ _⟩
        case round =>
          obtain ⟨j, hj, rfl, hbel⟩ := hrel
          by_cases hlt2 : j < n1
          · obtain ⟨p, r, hp, hrr, K, hh, hrp, hso, hkl, hks⟩ := HG.out j hlt2
            have kv := one_cell (HV.out.below hbel) rfl hp rfl
            have kr := one_cell (HW.out.below hbel) rfl hrr rfl
            have HRR := Lib.hid hrr
            have HRP := Lib.hid hrp
            have HSO := Lib.hid hso
            have HKS := Lib.hid hks
            have HBW := Lib.hid hbel
            have hkl2 : r.n ≤ 200 := by have := hso.1; omega
            obtain ⟨gs, gb, hGV⟩ := got_form (getL fr K)
            have HGV := Lib.hid hGV
            obtain ⟨W, hW⟩ : ∃ W, rangeL fr to K = W := ⟨_, rfl⟩
            have hWl : W.length ≤ 100000 := by rw [← hW]; exact Nat.le_trans (range_len _ _ _) (by omega)
            have HWR := Lib.hid hW
            obtain ⟨rk, hrk⟩ : ∃ q, rankL to K = q := ⟨_, rfl⟩
            have HRK := Lib.hid hrk
            clear hp hrr hrp hso hks hbel hGV hW hrk HF
            go_wp2_with fail
            refine (get_got HT.out (HT.out.below HRP.out HBW.out) (by omega) HFR.out HGV.out).mono ?_
            rintro e w5 ⟨rfl, hb5⟩
            have hb5' := keeps HBW.out hb5
            have HB5 := Lib.hid hb5'
            have kr5 := one_cell (HW.out.below hb5') rfl HRR.out rfl
            clear hb5 hb5' kv kr HBW
            go_wp2_with fail
            refine (refget_got (HSO.out.below HB5.out).sl (by omega) HGV.out).mono ?_
            rintro e w6 ⟨rfl, rfl⟩
            go_wp2_with fail
            have e1 : (gs.toList == gs.toList) = true := by simp
            have e2 : (gb != gb) = false := by simp
            have e3 : ((rk : Int) != (rk : Int)) = false := by simp
            have hj0 : (j : Int) < (n1 : Int) := by omega
            have RD : Hid (∀ v, Below w5.heap.size w5 v → Below w5.heap.size w5 v ∧ v.cell? ⟨gr, j, none⟩ = some (.slice r.a r.n r.c)) := Lib.hid fun v hv => ⟨hv, one_cell (HW.out.below (keeps HB5.out hv)) rfl HRR.out rfl⟩
            have RP : Hid (∀ v, Below w5.heap.size w5 v → Rep v (.pointer p) K hh) := Lib.hid fun v hv => HT.out.below HRP.out (keeps HB5.out hv)
            have RS : Hid (∀ v, Below w5.heap.size w5 v → Sl prE v r.a r.n K) := Lib.hid fun v hv => (HSO.out.below (keeps HB5.out hv)).sl
            clear kr5
            refine wp_region_noPanic ?_
            go_region_held3 (fun v => Below w5.heap.size w5 v ∧ v.cell? ⟨gr, j, none⟩ = some (.slice r.a r.n r.c))
              (first
                | exact RD.out _ (Below.refl _ _)
                | exact RD.out _ (by assumption)
                | exact RD.out _ (below_drewN (Below.refl _ _) _)
                | exact RD.out _ (Below.drew (by assumption))
                | exact RD.out _ (Below.drew (Below.refl _ _))
                | exact RD.out _ (And.left (by assumption)))
              (first
                | (go_at_call 16; refine (same_calls HT.out r.a r.n r.c K hh (.pointer p) _ (RS.out _ (And.left (by assumption))) (RP.out _ (And.left (by assumption))) (by omega) HKS.out).mono ?_; rintro e w7 ⟨rfl, hb7⟩; have hn7 : Below w5.heap.size w5 w7 := keeps (And.left (by assumption)) hb7; clear hb7)
                | (go_at_call 17; refine (rank_got HT.out (RP.out _ (And.left (by assumption))) (by omega) HTO.out HRK.out).mono ?_; rintro e w8 ⟨rfl, hb8⟩; have hn8 : Below w5.heap.size w5 w8 := keeps (And.left (by assumption)) hb8; clear hb8)
                | (go_at_call 18; refine (refrank_got (RS.out _ (And.left (by assumption))) (by omega) HRK.out).mono ?_; rintro e w9 ⟨rfl, rfl⟩)
                | (go_at_call 20; refine (range_is HT.out (RP.out _ (And.left (by assumption))) fr to HWR.out (by omega) HFR.out HTO.out).mono ?_; rintro e w10 ⟨AB, cd, rfl, hs10, hb10⟩; have hn10 : Below w5.heap.size w5 w10 := keeps (And.left (by assumption)) hb10; have HS10 := Lib.hid hs10; clear hb10 hs10)
                | (go_at_call 21; refine (refrange_is fr to (RS.out _ (And.left (by assumption))) (by omega) HWR.out).mono ?_; rintro e w11 ⟨AC, ce, rfl, hs11, hb11⟩; have hn11 : Below w5.heap.size w5 w11 := keeps (And.left (by assumption)) hb11; have HS11 := Lib.hid hs11; have HS10' := Lib.hid (HS10.out.below hb11); clear hb11 hs11)
                | (go_at_call 19; refine (refsame_calls _ _ _ _ _ _ W W _ HS10'.out HS11.out (by omega) (by omega) rfl).mono ?_; rintro e w12 ⟨rfl, hb12⟩; have hn12 : Below w5.heap.size w5 w12 := keeps (And.left (by assumption)) hb12; clear hb12))
            refine NoPanic.normal ?_
            rename_i hH
            have HH := Lib.hid (keeps HB5.out hH.1)
            clear hH RD RP RS e1 e2 e3
            go_wp2_with fail
            go_roundw
            case rel => exact ⟨j + 1, by omega, by go_num, HH.out⟩
            case measure => simp [intOf]; omega
          · obtain rfl : j = n1 := by omega
            have HBW := Lib.hid (keeps HBL.out hbel)
            clear hbel
            go_wp2_with fail
            refine (HF.out _).mono ?_
            rintro e w7 ⟨rfl, hb7⟩
            have HB7 := Lib.hid (keeps HBW.out hb7)
            clear hb7
            go_wp2_with fail
            go_ret
            exact ⟨rfl, HB7.out⟩
end Go.Proofs.Ytmbgbdhanobphaa.TreeP
