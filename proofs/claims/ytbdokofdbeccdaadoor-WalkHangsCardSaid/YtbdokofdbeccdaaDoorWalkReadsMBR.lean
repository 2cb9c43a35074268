/- Merged: Mb WalkI ViewKm WalkKm WalkV Vat. -/
import Derived.Test.YtbdokofdbeccdaaDoorProg
import Derived.StringKeys
import Derived.Maps.Own
import Derived.Maps.OwnOps
import Derived.Maps.OwnSet
import Derived.Maps.Views
import Derived.Test.YtbdokofdbeccdaaDoorOwn
import Derived.Test.YtbdokofdbeccdaaDoorWalkReadsMBQ
import Derived.Test.YtbdokofdbeccdaaDoorViewM
import Derived.WalkSpells
import Derived.Test.YtbdokofdbeccdaaDoorWalkReadsMBA
import Derived.Test.YtbdokofdbeccdaaDoorWalkReadsMBP
/- A set of texts as a map[string]bool of the call's own: made, filled, asked. -/
namespace Go.Proofs.YtbdokofdbeccdaaDoor.Mb
set_option linter.unusedVariables false
set_option linter.unusedSimpArgs false
open Go.RowKit Go.Maps Go.WideMaps
open Go.Proofs.YtbdokofdbeccdaaDoor.Own

theorem law_str : Keyed Tryd.prog 9 := string_keyed Tryd.underlying9
theorem zero_bool (w : World) : (zeroValue 4).run Tryd.prog w = .ok (.bool false) w := by kernel_rfl
def lits (l : List ByteArray) : List Lit := l.map (fun s => Lit.string s.data.toList)
theorem lits_key (l : List ByteArray) : ∀ x ∈ lits l, WideAt.IsKeyLit x := fun x hx => by
  obtain ⟨s, _, rfl⟩ := List.mem_map.1 hx
  trivial
def setD (l : List ByteArray) : DataW Unit := setOf (.lit (.bool true)) (lits l)
theorem setD_snoc (l : List ByteArray) (s : ByteArray) : setD (l ++ [s]) = (setD l).put (.string s.data.toList) (.lit (.bool true)) := by
  unfold setD lits
  rw [List.map_append, List.map_cons, List.map_nil, setOf_snoc]
theorem setD_map (l : List ByteArray) : IsMap (setD l) := (tidy_setOf _ _ (lits_key l)).isMap
theorem setD_at (l : List ByteArray) (s : ByteArray) (h : s ∈ l) (z : DataW Unit) : (setD l).atKey (.string s.data.toList) z = .lit (.bool true) := by
  suffices H : ∀ m : List ByteArray, s ∈ m.reverse → (setD m.reverse).atKey (.string s.data.toList) z = .lit (.bool true) by
    have := H l.reverse (by simpa using h)
    simpa using this
  intro m
  induction m with
  | nil => intro h; cases h
  | cons a m ih =>
    intro h
    rw [List.reverse_cons] at h ⊢
    rw [setD_snoc]
    by_cases e : s = a
    · subst e
      exact atKey_put_same (setD_map _) (show WideAt.IsKeyLit (.string s.data.toList) from trivial) _ _
    · rw [atKey_put_other (fun h' => e (by injection h' with h'; exact ByteArray.ext (Array.ext' h')))]
      rcases List.mem_append.1 h with h | h
      · exact ih h
      · rw [List.mem_singleton] at h
        exact absurd h e
theorem pl_bool_inv {P : Program} {e : TypeId} (he : P.underlying e = some .bool) {v : Value} {z : DataW Unit × List MemPlace} (h : plainElem P e v = some z) : ∃ x, v = .bool x ∧ z = (.lit (.bool x), []) := by
  unfold plainElem at h
  rw [he] at h
  cases v <;> simp at h
  exact ⟨_, rfl, h.symm⟩
/-- Block b is the set of these texts. -/
def Rm (w : World) (b : Nat) (l : List ByteArray) : Prop := ∃ n, n ≤ l.length ∧ w.ownsMap Tryd.prog 9 (plainElem (H := Unit) Tryd.prog 4) b n (setD l)
theorem Rm.made (w : World) : Rm (w.alloc (.map #[] 0)) w.heap.size [] := ⟨0, Nat.le_refl _, World.ownsMap_made _ _ _ _⟩
theorem Rm.lt {w : World} {b : Nat} {l : List ByteArray} (h : Rm w b l) : b < w.heap.size := by
  obtain ⟨n, _, h⟩ := h
  exact h.lt
theorem Rm.kept {w w' : World} {b : Nat} {l : List ByteArray} {row : Option Nat} (h : Rm w b l) (hg : w.grownBy w' row) (hne : some b ≠ row) : Rm w' b l := by
  obtain ⟨n, hn, h⟩ := h
  exact ⟨n, hn, h.kept hg hne⟩
theorem Rm.below {w w' : World} {b : Nat} {l : List ByteArray} (h : Rm w b l) (hb : Below w.heap.size w w') : Rm w' b l :=
  h.kept (row := none) ⟨hb.os, hb.tape, hb.output, hb.size, fun k hk _ => hb.block k hk⟩ (by simp)
/-- No row of cells lies there. -/
theorem Rm.apart {w : World} {b o : Nat} {l : List ByteArray} {v : Value} {g : Nat} (h : Rm w b l) (hc : w.cell? ⟨g, o, none⟩ = some v) : g ≠ b := by
  rintro rfl
  obtain ⟨n, _, es, clock, hb, _⟩ := h
  simp [World.cell?, hb] at hc
set_option maxRecDepth 100000 in
theorem Rm.ask {w : World} {b : Nat} {l : List ByteArray} (h : Rm w b l) (s : ByteArray) (hs : s ∈ l) (hz : s.size ≤ maxLen) : (Instr.lookup 51 (.map (some b)) (.string s) false).run Tryd.prog w = .ok (.bool true) w := by
  obtain ⟨n, _, h⟩ := h
  obtain ⟨v, ps, hrun, hv⟩ := h.lookup law_str Tryd.underlying51 (zero_bool w) (plainElem_bool Tryd.underlying4 false) (keyOf_string_mk Tryd.underlying9 hz)
  rw [setD_at l s hs] at hv
  obtain ⟨x, rfl, e⟩ := pl_bool_inv Tryd.underlying4 hv
  injection e with e _
  injection e with e
  injection e with e
  subst e
  exact hrun
set_option maxRecDepth 100000 in
theorem Rm.len0 {w : World} {b : Nat} (h : Rm w b []) (ty : TypeId) : (Builtin.len_ #[51] ty #[.map (some b)]).run Tryd.prog w = .ok (.int .i64 0) w := by
  obtain ⟨n, _, h⟩ := h
  exact h.len Tryd.underlying51 ty
theorem Rm.none_ {w : World} {b : Nat} (h : Rm w b []) : ∃ clock, w.heap[b]? = some (.map #[] clock) := by
  obtain ⟨n, hn, es, clock, hb, _, hs, _⟩ := h
  have : es = #[] := Array.eq_empty_of_size_eq_zero (by simp at hn; omega)
  subst this
  exact ⟨clock, hb⟩
section
variable {w : World}
set_option maxRecDepth 100000 in
theorem wpList_note {ops : Array Oper} {rest : List Oper} {o : Oper} {a : Act} {Q : Exit → Act → World → Prop} (hg : o.guard = none) (m x v : Operand) (hop : o.op = Op.mapUpdate 51 m x v)
    (b : Nat) (l : List ByteArray) (hm : a.eval m = .map (some b)) (h : Rm w b l) (hn : l.length < 100000) (s : ByteArray) (hx : a.eval x = .string s) (hv : a.eval v = .bool true) (hz : s.size ≤ maxLen)
    (hK : ∀ w', Rm w' b (l ++ [s]) → w.grownBy w' (some b) → wpList Tryd.prog ops Q rest (a.put o.dst undef) w') : wpList Tryd.prog ops Q (o :: rest) a w := by
  obtain ⟨n, hn', h⟩ := h
  refine wpList_mapUpdate_own _ hg m x v 51 hop 9 4 law_str Tryd.underlying51 _ b n _ hm h (by unfold maxLen; omega) _ _ _ hx hv (keyOf_string_mk Tryd.underlying9 hz) _ [] (plainElem_bool Tryd.underlying4 true) ?_
  intro w' h1 h2
  exact hK w' ⟨n + 1, by rw [List.length_append]; simp; omega, by rw [setD_snoc]; exact h1⟩ h2
end
end Go.Proofs.YtbdokofdbeccdaaDoor.Mb

/- Layer 17's law WalkReads, over what the project's walk is asked. -/
namespace Go.Proofs.YtbdokofdbeccdaaDoor.WalkI
set_option linter.unusedVariables false
set_option linter.unusedSimpArgs false
open Go.RowKit
open Go.Proofs.YtbdokofdbeccdaaDoor.Byte Go.Proofs.YtbdokofdbeccdaaDoor.KeysM Go.Proofs.YtbdokofdbeccdaaDoor.KeysR Go.Proofs.YtbdokofdbeccdaaDoor.TreeM Go.Proofs.YtbdokofdbeccdaaDoor.ViewM Go.Proofs.YtbdokofdbeccdaaDoor.NodeM Go.Proofs.YtbdokofdbeccdaaDoor.NamesM Go.Proofs.YtbdokofdbeccdaaDoor.WalkM Go.Proofs.YtbdokofdbeccdaaDoor.WalkF Go.Proofs.YtbdokofdbeccdaaDoor.Rw Go.Proofs.YtbdokofdbeccdaaDoor.Lst Go.Proofs.YtbdokofdbeccdaaDoor.Chg Go.Proofs.YtbdokofdbeccdaaDoor.TreeR Go.Proofs.YtbdokofdbeccdaaDoor.TreeS Go.Proofs.YtbdokofdbeccdaaDoor.TreeL Go.Proofs.YtbdokofdbeccdaaDoor.TreeG Go.Proofs.YtbdokofdbeccdaaDoor.TreeH Go.Proofs.YtbdokofdbeccdaaDoor.ViewR Go.Proofs.YtbdokofdbeccdaaDoor.ViewL Go.Proofs.YtbdokofdbeccdaaDoor.ViewP Go.Proofs.YtbdokofdbeccdaaDoor.WalkR Go.Proofs.YtbdokofdbeccdaaDoor.WalkL Go.Proofs.YtbdokofdbeccdaaDoor.WalkD Go.Proofs.YtbdokofdbeccdaaDoor.WalkE Go.Proofs.YtbdokofdbeccdaaDoor.WalkH Go.Proofs.YtbdokofdbeccdaaDoor.Mb
open Go.Proofs.YtbdokofdbeccdaaDoor.NamesL (Mx)
open Go.Proofs.YtbdokofdbeccdaaDoor.Own hiding keeps
variable {Rep : RepT}
set_option maxRecDepth 100000 in
set_option maxHeartbeats 8000000 in
theorem reads_law (hV : Vwk Rep) (hW : Wks Rep) (hX : FindOk Rep) (hF : FixOk) (A : Option Addr) (n c : Nat) (ops : List Op17) (path : ByteArray) (w : World) (hl : Sl opE w A n ops) (hn : n ≤ c) (hc : c ≤ maxLen) (hf : ∀ p ∈ ops, OpB p) (hnm : path.size ≤ 9223372036854775807) (hmx : Mx w) :
    Calls Tryd.prog 4 #[.slice A n c, .string path] w fun e w' => e = .returned (.bool true) ∧ Below w.heap.size w w' := by
  have HF := Lib.hid hF
  have HMX := Lib.hid hmx
  clear hmx
  by_cases hbad : 3000 < path.size
  · have d2 : decide ((3000 : Int) < (path.size : Int)) = true := decide_eq_true (by omega)
    clear hV hW hX hF hf hl hbad
    go_enter Tryd.func4, Tryd.ntmps4
    go_wp2_with fail
    refine (HF.out _ HMX.out).mono ?_
    rintro e w1 ⟨rfl, hb1⟩
    have HB1 := Lib.hid hb1
    clear hb1
    go_wp2_with fail
    go_ret
    exact ⟨rfl, HB1.out⟩
  · have d2 : decide ((3000 : Int) < (path.size : Int)) = false := decide_eq_false (by omega)
    have HV := Lib.hid hV
    have HW := Lib.hid hW
    have HX := Lib.hid hX
    have HL := Lib.hid hl
    have HOB := Lib.hid hf
    have hnm2 : path.size ≤ 100000 := by omega
    clear hV hW hX hF hf hl hbad
    go_enter Tryd.func4, Tryd.ntmps4
    go_wp2_with fail
    refine (new_calls _).mono ?_
    rintro e w1 ⟨v0, h0, rfl, hr0, hb1⟩
    have HB1 := Lib.hid hb1
    have HR0 := Lib.hid hr0
    clear hb1 hr0
    go_wp2_with fail
    refine (HV.out.new HR0.out).mono ?_
    rintro e w2 ⟨v, S, D, rfl, hr2, hS2, hD2, hb2⟩
    have HP2 : Hid (PWn Rep w w2 v [] ⟨none, 0, 0⟩ S D) := Lib.hid ⟨⟨hr2, ⟨Sl.nil_ _ _ _, Nat.le_refl _, Nat.zero_le _, fun _ => rfl, (fun b h => by cases h)⟩, (fun h => by cases h), GoodW.nil⟩, fun b hb => by have h1 := hS2 b hb; have h2 := HB1.out.size; omega, keeps HB1.out hb2⟩
    clear hb2 hr2 hS2 hD2
    go_wp2_with fail
    refine (cut_calls A n c ops w2 (HL.out.below HP2.out.below) hn hc HOB.out).mono ?_
    rintro e w3 ⟨m, rfl, hmn, hm40, hgood, hb3⟩
    have HP3 := Lib.hid (HP2.out.under HV.out.stays hb3)
    have HGO := Lib.hid hgood
    clear hgood hb3
    go_wp2_with fail
    go_loopw [6, 23] (fun r i wr => ∃ (k : Nat) (L : List Pr) (h : Sh) (S D : Nat → Prop), k ≤ m ∧ i = .int .i64 k ∧ r = .slice h.a h.n h.c ∧ L.length ≤ k ∧ Hid (PWn Rep w wr v L h S D)) (fun _ i _ => m - (intOf i).toNat)
    case atStart => exact ⟨0, [], ⟨none, 0, 0⟩, S, D, Nat.zero_le _, rfl, rfl, Nat.le_refl _, HP3⟩
    case round =>
      obtain ⟨k, L, h, S, D, hk, rfl, rfl, hLk, HP⟩ := hrel
      by_cases hlt : k < m
      · obtain ⟨x, g, o, hx, rfl, hg, hcl⟩ := (HL.out.below HP.out.below).get k (by omega)
        have hfx := HOB.out x (List.mem_of_getElem? hx)
        have hgx := HGO.out x (List.mem_of_getElem? (by rw [List.getElem?_take_of_lt hlt]; exact hx) )
        have HD := Lib.hid (fun w (p : PW Rep w v L h S D) => do_calls HV.out HW.out v L h S D x w p (by omega) hfx hgx)
        obtain ⟨kind, dir', ino', name', k1, l1, s1, p1⟩ := x
        dsimp only at HD
        have HC : Hid (wr.rangeAt g (o + k * 8) [.int .i64 kind, .int .u32 dir', .int .u32 ino', .string name', .int .u8 k1, .int .u32 l1, .int .u32 s1, .int .u32 p1]) := Lib.hid hcl
        clear hcl hfx hgx hx
        go_wp2_with ((with_reducible refine pick (some 26) ?_); refine wpList_load_mid rfl 34 _ rfl g (o + k * 8) rfl _ _ HC.out Tryd.underlying34 rfl info_op ?_)
        have hpa := HP.out.under HV.out.stays ((Below.refl wr.heap.size wr).alloc (Nat.le_refl _) (.cells #[.int .i64 kind, .int .u32 dir', .int .u32 ino', .string name', .int .u8 k1, .int .u32 l1, .int .u32 s1, .int .u32 p1] 34))
        have HPA := Lib.hid hpa
        clear hpa
        refine (HD.out _ HPA.out.pw).mono ?_
        intro e w4 hdo
        obtain ⟨S', D', h', L', rfl, hp', hl'⟩ := HPA.out.step HV.out.stays hdo
        have HP' := Lib.hid hp'
        clear hdo hp'
        go_wp2_with fail
        go_roundw
        case rel => exact ⟨k + 1, L', h', S', D', by omega, by go_num, rfl, by omega, HP'⟩
        case measure => simp [intOf]; omega
      · obtain rfl : k = m := by omega
        have HVR := Lib.hid (⟨HP.out.pw.rep, HP.out.pw.row, HP.out.pw.off, HP.out.new, HP.out.below⟩ : VR Rep w wr v ⟨[], L, [], []⟩ h L S D)
        have hq1 := HX.out path HP.out.pw.rep lim_n (show (0 : Nat) ≤ 900 by omega) hnm2 (HMX.out.below HP.out.below)
        have hsh : (⟨[], L, [], []⟩ : Vs).shown = L := shown_good HP.out.pw.good
        rw [hsh] at hq1
        have hbd := find_bd L path
        have her := find_err L path
        obtain ⟨⟨sd, sn, si, ⟨nk, nl, ns, np⟩⟩, er, hE⟩ : ∃ sp er, findM L path = (sp, er) := ⟨_, _, rfl⟩
        rw [hE] at hq1 hbd her
        dsimp only at hq1 hbd her
        obtain ⟨b1, b2, b3, b4, b5⟩ := hbd
        dsimp only at b1 b2 b3 b4 b5
        have HSH : Hid (findM (⟨[], L, [], []⟩ : Vs).shown path = (⟨sd, sn, si, ⟨nk, nl, ns, np⟩⟩, er)) := Lib.hid (by rw [hsh, hE])
        have HQ1 := Lib.hid hq1
        have HER := Lib.hid her
        clear hq1 hE hsh her
        have hmm := @run_makeMap Tryd.prog
        go_wp2_with fail
        refine HQ1.out.mono ?_
        rintro e w4 ⟨s', S4, D4, rfl, hr4, hst4, hfr⟩
        obtain ⟨f1, f2, f3, f4, _, f5, f6, f7, f8, f9, f10⟩ := hfr
        rw [HSH.out] at f6 f7 f8
        have HF1 := Lib.hid (show Lim s' from ⟨by rw [f1]; show (0 : Nat) ≤ 100; omega, by have : s'.rd.length ≤ 0 + 40 := f9; omega, by rw [f3]; show (0 : Nat) ≤ 1000; omega⟩)
        have HF4 := Lib.hid f4
        have HF5 := Lib.hid f5
        have HF6 := Lib.hid f6
        have HF7 := Lib.hid f7
        have HF8 := Lib.hid f8
        have HF10 : Hid (∀ p ∈ s'.rd, p.key.size ≤ 100000) := Lib.hid (fun p hp => (f10 p hp).elim (fun h => by cases h) id)
        have HRD : Hid (s'.rd.length ≤ 40) := Lib.hid (by have : s'.rd.length ≤ 0 + 40 := f9; omega)
        have HV4 := Lib.hid (HVR.out.step hr4 hst4)
        clear hr4 hst4 f1 f2 f3 f4 f5 f6 f7 f8 f9 f10
        obtain ⟨W5, hW5⟩ : ∃ W5, (w4.alloc (.cells #[.int .u32 sd, .string sn, .int .u32 si, .int .u8 nk, .int .u32 nl, .int .u32 ns, .int .u32 np] 47)).alloc (.map #[] 0) = W5 := ⟨_, rfl⟩
        have hB5 : Below w4.heap.size w4 W5 := by rw [← hW5]; exact ((Below.refl _ _).alloc (Nat.le_refl _) _).alloc (by simp) _
        have hX5 : Blk W5 w4.heap.size #[.int .u32 sd, .string sn, .int .u32 si, .int .u8 nk, .int .u32 nl, .int .u32 ns, .int .u32 np] 47 := by rw [← hW5]; exact (Blk.new_ _ _ _).alloc _
        have hM5 : Rm W5 (w4.heap.size + 1) [] := by
          rw [← hW5]
          have := Rm.made (w4.alloc (.cells #[.int .u32 sd, .string sn, .int .u32 si, .int .u8 nk, .int .u32 nl, .int .u32 ns, .int .u32 np] 47))
          simpa using this
        have HW5 := Lib.hid hW5
        have HX5 := Lib.hid hX5
        have HM5 := Lib.hid hM5
        have HV5 := Lib.hid (HV4.out.under HV.out.stays hB5)
        clear hW5 hB5 hX5 hM5
        go_wp2_with fail
        rw [HW5.out]
        refine (HV.out.reads HV5.out.rep HF1.out).mono ?_
        rintro e w6 ⟨⟨ra, rn, rc⟩, rfl, hsl6, hb6⟩
        dsimp only at hsl6
        have HS6 := Lib.hid hsl6
        have HX6 := Lib.hid (HX5.out.below hb6)
        have HM6 := Lib.hid (HM5.out.below hb6)
        have HV6 := Lib.hid (HV5.out.under HV.out.stays hb6)
        have hrn : rn ≤ 40 := by have := hsl6.1; have := HRD.out; omega
        clear hsl6 hb6
        go_wp2_with fail
        go_loopw [42] (fun i wr => ∃ k : Nat, k ≤ rn ∧ i = .int .i64 k ∧ Hid (Rm wr (w4.heap.size + 1) ((s'.rd.take k).map (·.key))) ∧ Hid (Chg (fun b => b = w4.heap.size + 1) w6 wr)) (fun i _ => rn - (intOf i).toNat)
        case atStart => exact ⟨0, Nat.zero_le _, rfl, HM6, Lib.hid (Chg.refl _ _)⟩
        case round =>
          obtain ⟨k2, hk2, rfl, HRM, HCH⟩ := hrel
          have hSl : Sl rdE wr ra rn s'.rd := by
            by_cases h0 : 0 < rn
            · refine Sl.chg HS6.out HCH.out (fun b o e hb => ?_)
              subst hb
              obtain ⟨x, b', o', _, e', _, hc⟩ := HS6.out.get 0 h0
              rw [e] at e'
              injection e' with e'
              injection e' with e1 e2
              subst e1
              subst e2
              have hcell := hc 0 _ rfl
              exact HM6.out.apart hcell rfl
            · have : rn = 0 := by omega
              subst this
              have := List.eq_nil_of_length_eq_zero HS6.out.1
              rw [this]
              exact Sl.nil_ _ _ _
          by_cases hlt : k2 < rn
          · obtain ⟨x, g, o, hx, rfl, hg, hcl⟩ := hSl.get k2 hlt
            have c1 : wr.cell? ⟨g, o + k2, none⟩ = some (.string x.key) := by
              have := hcl 0 _ rfl
              rw [show rdE.size = 1 from rfl, Nat.mul_one] at this
              exact this
            have hxk := HF10.out x (List.mem_of_getElem? hx)
            have HNX : Hid ((s'.rd.take (k2 + 1)).map (·.key) = (s'.rd.take k2).map (·.key) ++ [x.key]) := Lib.hid (by rw [take_nx hx, List.map_append]; rfl)
            have HLN : Hid (((s'.rd.take k2).map (·.key)).length < 100000) := Lib.hid (by rw [List.length_map, List.length_take]; omega)
            clear hcl hx hSl
            go_wp2_with (at_mapUpdate; refine wpList_note rfl _ _ _ rfl (w4.heap.size + 1) _ rfl HRM.out HLN.out x.key rfl rfl (by unfold maxLen; omega) ?_; intro w7 hrm7 hg7)
            have HR7 : Hid (Rm w7 (w4.heap.size + 1) ((s'.rd.take (k2 + 1)).map (·.key))) := Lib.hid (by rw [HNX.out]; exact hrm7)
            have HC7 : Hid (Chg (fun b => b = w4.heap.size + 1) w6 w7) := Lib.hid (HCH.out.trans (Chg.of_grown hg7 (fun q hq => .inl (by injection hq with hq; exact hq.symm))))
            clear hrm7 hg7
            go_roundw
            case rel => exact ⟨k2 + 1, by omega, by go_num, HR7, HC7⟩
            case measure => simp [intOf]; omega
          · obtain rfl : k2 = rn := by omega
            have hL : s'.rd.take k2 = s'.rd := List.take_of_length_le (by rw [HS6.out.1]; exact Nat.le_refl _)
            have HRD2 : Hid (Rm wr (w4.heap.size + 1) (s'.rd.map (·.key))) := Lib.hid (by have := HRM.out; rw [hL] at this; exact this)
            have hX7 : Blk wr w4.heap.size #[.int .u32 sd, .string sn, .int .u32 si, .int .u8 nk, .int .u32 nl, .int .u32 ns, .int .u32 np] 47 := blk_chg HX6.out HCH.out (by omega)
            have HX7 := Lib.hid hX7
            have hw4 := HV4.out.below.size
            have HB7 : Hid (Below w.heap.size w wr) := Lib.hid (below_chg HV6.out.below HCH.out (fun b hb => by omega) (Nat.le_refl _))
            clear hSl hL hX7 hw4 HRM HCH
            have HI1 := Lib.hid (fun w => refI_calls 1 w (by omega) (by omega))
            rcases HER.out with ⟨hsp, he⟩ | ⟨hsp, he⟩
            · have hrd := HF4.out hsp
              have HNIL : Hid (Rm wr (w4.heap.size + 1) []) := Lib.hid (by have := HRD2.out; rw [hrd] at this; exact this)
              have HEE := Lib.hid he
              clear hsp he hrd HRD2
              rcases HEE.out with rfl | rfl
              all_goals
                go_wp2_with fail
                refine (HF.out _ (HMX.out.below HB7.out)).mono ?_
                rintro e w8 ⟨rfl, hb8⟩
                have HB8 := Lib.hid (keeps HB7.out hb8)
                have hlen := (HNIL.out.below hb8).len0
                clear hb8
                go_wp2_with fail
                go_ret
                exact ⟨rfl, HB8.out⟩
            · have hI := HF5.out hsp
              have HSP := Lib.hid hsp
              have ask : ∀ k : ByteArray, k.size ≤ 100000 → hasK k s'.rd → ∀ v, Below wr.heap.size wr v → (Instr.lookup 51 (.map (some (w4.heap.size + 1))) (.string k) false).run Tryd.prog v = .ok (.bool true) v := fun k hk hkk v hv => by
                obtain ⟨p, hp, rfl⟩ := hkk
                exact (HRD2.out.below hv).ask p.key (List.mem_map.2 ⟨p, hp, rfl⟩) (by unfold maxLen; omega)
              have HASK := Lib.hid ask
              have LK1 := Lib.hid (ask (kI 1) (by unfold kI; rw [ks_size]; omega) hI)
              have ksz : ∀ i : Int, (kI i).size ≤ 100000 := fun i => by unfold kI; rw [ks_size]; omega
              have KSZ := Lib.hid ksz
              clear hI hsp ask ksz
              rcases he with he | he | he
              · -- it is there, or may be
                subst he
                have LKE : Hid (sn.size ≠ 0 → ∀ v, Below wr.heap.size wr v → (Instr.lookup 51 (.map (some (w4.heap.size + 1))) (.string (kE sd sn)) false).run Tryd.prog v = .ok (.bool true) v) := Lib.hid (fun h0 => HASK.out _ (by unfold kE; split; decide; rw [ByteArray.size_append, ks_size]; omega) (HF6.out HSP.out rfl (fun e => h0 (by rw [show sn = ⟨#[]⟩ from e]; rfl))))
                have LKI : Hid (si ≠ 0 → ∀ v, Below wr.heap.size wr v → (Instr.lookup 51 (.map (some (w4.heap.size + 1))) (.string (kI si)) false).run Tryd.prog v = .ok (.bool true) v) := Lib.hid (fun h0 => HASK.out _ (KSZ.out _) (HF7.out HSP.out rfl h0))
                have LKD : Hid (sd ≠ 0 → ∀ v, Below wr.heap.size wr v → (Instr.lookup 51 (.map (some (w4.heap.size + 1))) (.string (kI sd)) false).run Tryd.prog v = .ok (.bool true) v) := Lib.hid (fun h0 => HASK.out _ (KSZ.out _) (HF8.out HSP.out rfl h0))
                have HIE := Lib.hid (fun w => refE_calls sd sn w (by unfold maxLen; omega) b1 b2)
                have HII := Lib.hid (fun w => refI_calls si w b3 b4)
                have HID := Lib.hid (fun w => refI_calls sd w b1 b2)
                generalize hk1 : kI 1 = k1 at *
                generalize hk2 : kE sd sn = k2 at *
                generalize hk3 : kI si = k3 at *
                generalize hk4 : kI sd = k4 at *
                clear hk1 hk2 hk3 hk4
                have n1 : (sn.size = 0 ∧ sn.toList = []) ∨ (sn.size ≠ 0 ∧ ¬ sn.toList = [] ∧ sn.toList.isEmpty = false) := by
                  by_cases h : sn.size = 0
                  · exact .inl ⟨h, (empty_iff sn).2 h⟩
                  · refine .inr ⟨h, fun e => h ((empty_iff sn).1 e), ?_⟩
                    cases hh : sn.toList with
                    | nil => exact absurd ((empty_iff sn).1 hh) h
                    | cons a b => rfl
                have n2 : (si == 0) = true ∨ ((si == 0) = false ∧ si ≠ 0) := by
                  by_cases h : si = 0
                  · exact .inl (by rw [h]; rfl)
                  · exact .inr ⟨by rw [beq_eq_false_iff_ne]; exact h, h⟩
                have n3 : (sd == 0) = true ∨ ((sd == 0) = false ∧ sd ≠ 0) := by
                  by_cases h : sd = 0
                  · exact .inl (by rw [h]; rfl)
                  · exact .inr ⟨by rw [beq_eq_false_iff_ne]; exact h, h⟩
                have HN1 := Lib.hid n1
                have HN2 := Lib.hid n2
                have HN3 := Lib.hid n3
                clear n1 n2 n3
                go_wp2_with fail
                refine (HF.out _ (HMX.out.below HB7.out)).mono ?_
                rintro e w8 ⟨rfl, hb8⟩
                have HB8 := Lib.hid hb8
                clear hb8
                go_wp2_with fail
                refine (HI1.out _).mono ?_
                rintro e w9 ⟨rfl, hb9⟩
                have hB := keeps HB8.out hb9
                have q1 := LK1.out w9 hB
                obtain ⟨c0, c1, c2⟩ : w9.cell? ⟨w4.heap.size, 0, none⟩ = some (.int .u32 sd) ∧ w9.cell? ⟨w4.heap.size, 1, none⟩ = some (.string sn) ∧ w9.cell? ⟨w4.heap.size, 2, none⟩ = some (.int .u32 si) := ⟨(HX7.out.below hB).cell 0, (HX7.out.below hB).cell 1, (HX7.out.below hB).cell 2⟩
                have HB9 := Lib.hid hB
                clear hB hb9
                rcases HN1.out with ⟨_, m1⟩ | ⟨m1, m1', m1''⟩
                · rcases HN2.out with m2 | ⟨m2, m2'⟩
                  · rcases HN3.out with m3 | ⟨m3, m3'⟩
                    · go_wp2_with fail
                      go_ret
                      exact ⟨rfl, keeps HB7.out HB9.out⟩
                    · have HM3 := Lib.hid m3'
                      clear m3'
                      go_wp2_with fail
                      refine (HID.out _).mono ?_
                      rintro e w10 ⟨rfl, hb10⟩
                      have HB10 := Lib.hid (keeps HB9.out hb10)
                      have q4 := LKD.out HM3.out w10 HB10.out
                      clear hb10
                      go_wp2_with fail
                      go_ret
                      exact ⟨rfl, keeps HB7.out HB10.out⟩
                  · have HM2 := Lib.hid m2'
                    clear m2'
                    go_wp2_with fail
                    refine (HII.out _).mono ?_
                    rintro e w10 ⟨rfl, hb10⟩
                    have hB := keeps HB9.out hb10
                    have q3 := LKI.out HM2.out w10 hB
                    have c0' : w10.cell? ⟨w4.heap.size, 0, none⟩ = some (.int .u32 sd) := (HX7.out.below hB).cell 0
                    have HB10 := Lib.hid hB
                    clear hb10 hB
                    rcases HN3.out with m3 | ⟨m3, m3'⟩
                    · go_wp2_with fail
                      go_ret
                      exact ⟨rfl, keeps HB7.out HB10.out⟩
                    · have HM3 := Lib.hid m3'
                      clear m3'
                      go_wp2_with fail
                      refine (HID.out _).mono ?_
                      rintro e w11 ⟨rfl, hb11⟩
                      have HB11 := Lib.hid (keeps HB10.out hb11)
                      have q4 := LKD.out HM3.out w11 HB11.out
                      clear hb11
                      go_wp2_with fail
                      go_ret
                      exact ⟨rfl, keeps HB7.out HB11.out⟩
                · have HM1 := Lib.hid m1
                  clear m1
                  go_wp2_with fail
                  refine (HIE.out _).mono ?_
                  rintro e w10 ⟨rfl, hb10⟩
                  have hB := keeps HB9.out hb10
                  have q2 := LKE.out HM1.out w10 hB
                  obtain ⟨c0', c2'⟩ : w10.cell? ⟨w4.heap.size, 0, none⟩ = some (.int .u32 sd) ∧ w10.cell? ⟨w4.heap.size, 2, none⟩ = some (.int .u32 si) := ⟨(HX7.out.below hB).cell 0, (HX7.out.below hB).cell 2⟩
                  have HB10 := Lib.hid hB
                  clear hb10 hB
                  rcases HN2.out with m2 | ⟨m2, m2'⟩
                  · rcases HN3.out with m3 | ⟨m3, m3'⟩
                    · go_wp2_with fail
                      go_ret
                      exact ⟨rfl, keeps HB7.out HB10.out⟩
                    · have HM3 := Lib.hid m3'
                      clear m3'
                      go_wp2_with fail
                      refine (HID.out _).mono ?_
                      rintro e w11 ⟨rfl, hb11⟩
                      have HB11 := Lib.hid (keeps HB10.out hb11)
                      have q4 := LKD.out HM3.out w11 HB11.out
                      clear hb11
                      go_wp2_with fail
                      go_ret
                      exact ⟨rfl, keeps HB7.out HB11.out⟩
                  · have HM2 := Lib.hid m2'
                    clear m2'
                    go_wp2_with fail
                    refine (HII.out _).mono ?_
                    rintro e w11 ⟨rfl, hb11⟩
                    have hB := keeps HB10.out hb11
                    have q3 := LKI.out HM2.out w11 hB
                    have c0'' : w11.cell? ⟨w4.heap.size, 0, none⟩ = some (.int .u32 sd) := (HX7.out.below hB).cell 0
                    have HB11 := Lib.hid hB
                    clear hb11 hB
                    rcases HN3.out with m3 | ⟨m3, m3'⟩
                    · go_wp2_with fail
                      go_ret
                      exact ⟨rfl, keeps HB7.out HB11.out⟩
                    · have HM3 := Lib.hid m3'
                      clear m3'
                      go_wp2_with fail
                      refine (HID.out _).mono ?_
                      rintro e w12 ⟨rfl, hb12⟩
                      have HB12 := Lib.hid (keeps HB11.out hb12)
                      have q4 := LKD.out HM3.out w12 HB12.out
                      clear hb12
                      go_wp2_with fail
                      go_ret
                      exact ⟨rfl, keeps HB7.out HB12.out⟩
              · subst he
                generalize hk1 : kI 1 = k1 at *
                clear hk1
                go_wp2_with fail
                refine (HF.out _ (HMX.out.below HB7.out)).mono ?_
                rintro e w8 ⟨rfl, hb8⟩
                have HB8 := Lib.hid hb8
                clear hb8
                go_wp2_with fail
                refine (HI1.out _).mono ?_
                rintro e w9 ⟨rfl, hb9⟩
                have HB9 := Lib.hid (keeps HB8.out hb9)
                have q1 := LK1.out w9 HB9.out
                clear hb9
                go_wp2_with fail
                go_ret
                exact ⟨rfl, keeps HB7.out HB9.out⟩
              · subst he
                generalize hk1 : kI 1 = k1 at *
                clear hk1
                go_wp2_with fail
                refine (HF.out _ (HMX.out.below HB7.out)).mono ?_
                rintro e w8 ⟨rfl, hb8⟩
                have HB8 := Lib.hid hb8
                clear hb8
                go_wp2_with fail
                refine (HI1.out _).mono ?_
                rintro e w9 ⟨rfl, hb9⟩
                have HB9 := Lib.hid (keeps HB8.out hb9)
                have q1 := LK1.out w9 HB9.out
                clear hb9
                go_wp2_with fail
                go_ret
                exact ⟨rfl, keeps HB7.out HB9.out⟩
end Go.Proofs.YtbdokofdbeccdaaDoor.WalkI

/- The plain mathematics of a view that keeps what it shows and which keys are written. Names no program. -/
namespace Go.Proofs.YtbdokofdbeccdaaDoor.ViewKm
set_option linter.unusedVariables false
set_option linter.unusedSimpArgs false
open Go.Proofs.YtbdokofdbeccdaaDoor.Byte Go.Proofs.YtbdokofdbeccdaaDoor.KeysM Go.Proofs.YtbdokofdbeccdaaDoor.TreeM Go.Proofs.YtbdokofdbeccdaaDoor.ViewM

theorem mem_cut {l : List Pr} {k : ByteArray} {q : Pr} : q ∈ cutL k l ↔ q ∈ l ∧ q.key ≠ k := by
  unfold cutL
  rw [List.mem_filter]
  simp
theorem mem_put' {l : List Pr} {k v : ByteArray} {q : Pr} : q ∈ putL k v l ↔ q = ⟨k, v, false⟩ ∨ (q ∈ l ∧ q.key ≠ k) :=
  ⟨mem_put, fun h => by
    rcases h with rfl | ⟨h1, h2⟩
    · exact put_new _ _ _
    · exact put_mem h1 h2⟩
theorem mem_putP' {l : List Pr} {p q : Pr} : q ∈ putP p l ↔ q = p ∨ (q ∈ l ∧ q.key ≠ p.key) :=
  ⟨mem_putP, fun h => by
    rcases h with rfl | ⟨h1, h2⟩
    · exact putP_new _ _
    · exact putP_mem h1 h2⟩
theorem mem_done {l : List Pr} {w q : Pr} : q ∈ doneW l w ↔ (w.gone = false ∧ q = ⟨w.key, w.value, false⟩) ∨ (q ∈ l ∧ q.key ≠ w.key) := by
  unfold doneW
  cases h : w.gone with
  | true => simp [mem_cut]
  | false => simp [mem_put']
theorem mem_shown {W : List Pr} : ∀ {B : List Pr} (hW : Rise W) {q : Pr}, q ∈ shownL B W ↔ (∃ w ∈ W, w.gone = false ∧ q = ⟨w.key, w.value, false⟩) ∨ (q ∈ B ∧ ∀ w ∈ W, q.key ≠ w.key) := by
  induction W with
  | nil => intro B hW q; simp [shownL]
  | cons w W ih =>
    intro B hW q
    have hW' := hW
    unfold Rise at hW'
    rw [List.pairwise_cons] at hW'
    have e : shownL B (w :: W) = shownL (doneW B w) W := rfl
    rw [e, ih (B := doneW B w) hW'.2, mem_done]
    constructor
    · rintro (⟨x, hx, h1, h2⟩ | ⟨⟨h1, h2⟩ | ⟨h1, h2⟩, h3⟩)
      · exact .inl ⟨x, List.mem_cons_of_mem _ hx, h1, h2⟩
      · exact .inl ⟨w, List.mem_cons_self, h1, h2⟩
      · exact .inr ⟨h1, fun x hx => by
          rcases List.mem_cons.1 hx with rfl | hx
          · exact h2
          · exact h3 x hx⟩
    · rintro (⟨x, hx, h1, h2⟩ | ⟨h1, h2⟩)
      · rcases List.mem_cons.1 hx with rfl | hx
        · refine .inr ⟨.inl ⟨h1, h2⟩, fun y hy => ?_⟩
          subst h2
          exact kl_ne (hW'.1 y hy)
        · exact .inl ⟨x, hx, h1, h2⟩
      · exact .inr ⟨.inr ⟨h1, h2 w List.mem_cons_self⟩, fun y hy => h2 y (List.mem_cons_of_mem _ hy)⟩
theorem get_none {l : List Pr} {k : ByteArray} (h : getL k l = none) : ∀ q ∈ l, q.key ≠ k := fun q hq e => by
  unfold getL at h
  have := List.find?_eq_none.1 h q hq
  simp [e] at this
theorem get_none' {l : List Pr} {k : ByteArray} (h : ∀ q ∈ l, q.key ≠ k) : getL k l = none := by
  unfold getL
  rw [List.find?_eq_none]
  intro q hq
  simp [h q hq]
theorem get_mem {l : List Pr} (hr : Rise l) {p : Pr} (h : p ∈ l) : getL p.key l = some p := by
  obtain ⟨i, hi, rfl⟩ := List.mem_iff_getElem.1 h
  exact TreeM.get_at hr (List.getElem?_eq_getElem hi)
/-- What is shown behind one more write. -/
theorem shown_write {B W : List Pr} (hB : Rise B) (hW : Rise W) (p : Pr) : shownL B (writeW B W p) = doneW (shownL B W) p := by
  have hS := rise_shown hB W
  refine rise_ext (rise_shown hB _) (rise_done hS p) fun q => ?_
  rw [mem_shown (rise_write hW p), mem_done, mem_shown hW]
  unfold writeW
  cases hc : (p.gone && (getL p.key B).isNone) with
  | true =>
    rw [if_pos rfl]
    rw [Bool.and_eq_true] at hc
    obtain ⟨hg, hn⟩ := hc
    have hB' := get_none (Option.isNone_iff_eq_none.1 hn)
    simp only [mem_cut, hg]
    constructor
    · rintro (⟨x, ⟨hx, h3⟩, h1, rfl⟩ | ⟨h1, h2⟩)
      · exact .inr ⟨.inl ⟨x, hx, h1, rfl⟩, h3⟩
      · refine .inr ⟨.inr ⟨h1, fun x hx => ?_⟩, hB' q h1⟩
        by_cases hk : x.key = p.key
        · rw [hk]
          exact hB' q h1
        · exact h2 x ⟨hx, hk⟩
    · rintro (⟨h1, _⟩ | ⟨⟨x, hx, h1, rfl⟩ | ⟨h1, h2⟩, h3⟩)
      · cases h1
      · exact .inl ⟨x, ⟨hx, h3⟩, h1, rfl⟩
      · exact .inr ⟨h1, fun x hx => h2 x hx.1⟩
  | false =>
    rw [if_neg (by decide)]
    simp only [mem_putP']
    constructor
    · rintro (⟨x, rfl | ⟨hx, h3⟩, h1, rfl⟩ | ⟨h1, h2⟩)
      · exact .inl ⟨h1, rfl⟩
      · exact .inr ⟨.inl ⟨x, hx, h1, rfl⟩, h3⟩
      · refine .inr ⟨.inr ⟨h1, fun x hx => ?_⟩, h2 p (.inl rfl)⟩
        by_cases hk : x.key = p.key
        · rw [hk]
          exact h2 p (.inl rfl)
        · exact h2 x (.inr ⟨hx, hk⟩)
    · rintro (⟨h1, rfl⟩ | ⟨⟨x, hx, h1, rfl⟩ | ⟨h1, h2⟩, h3⟩)
      · exact .inl ⟨p, .inl rfl, h1, rfl⟩
      · exact .inl ⟨x, .inr ⟨hx, h3⟩, h1, rfl⟩
      · refine .inr ⟨h1, fun x hx => ?_⟩
        rcases hx with rfl | hx
        · exact h3
        · exact h2 x hx.1
/-- What a written key shows. -/
theorem get_shown {B W : List Pr} (hB : Rise B) (hW : Rise W) {p : Pr} (hp : p ∈ W) : getL p.key (shownL B W) = if p.gone then none else some ⟨p.key, p.value, false⟩ := by
  cases hg : p.gone with
  | false =>
    rw [if_neg (by decide)]
    exact get_mem (p := ⟨p.key, p.value, false⟩) (rise_shown hB W) ((mem_shown hW).2 (.inl ⟨p, hp, hg, rfl⟩))
  | true =>
    rw [if_pos rfl]
    refine get_none' fun q hq e => ?_
    rcases (mem_shown hW).1 hq with ⟨x, hx, h1, rfl⟩ | ⟨_, h2⟩
    · have := rise_keys hW hx hp e
      subst this
      rw [hg] at h1
      cases h1
    · exact h2 p hp e
/-- The keys alone. -/
def kp (p : Pr) : Pr := ⟨p.key, ⟨#[]⟩, false⟩
def kys (W : List Pr) : List Pr := W.map kp
theorem kys_len (W : List Pr) : (kys W).length = W.length := by simp [kys]
theorem kys_put (p : Pr) (W : List Pr) : kys (putP p W) = putL p.key ⟨#[]⟩ (kys W) := by
  unfold kys putP putL
  simp only [List.map_append, List.map_cons, List.filter_map]
  rfl
theorem kys_cut (k : ByteArray) (W : List Pr) : kys (cutL k W) = cutL k (kys W) := by
  unfold kys cutL
  simp only [List.filter_map]
  rfl
theorem kys_in (k : ByteArray) (W : List Pr) : (getL k (kys W)).isSome = inW k W := by
  unfold inW getL kys
  rw [List.find?_map]
  cases h : List.find? ((fun p => decide (p.key = k)) ∘ kp) W with
  | none => 
    have : List.find? (fun p => decide (p.key = k)) W = none := h
    rw [this]; rfl
  | some q =>
    have : List.find? (fun p => decide (p.key = k)) W = some q := h
    rw [this]; rfl
/-- Gone keys have no value. -/
def Bare (W : List Pr) : Prop := ∀ p ∈ W, p.gone = true → p.value = ⟨#[]⟩
theorem Bare.nil : Bare [] := fun p hp => by cases hp
theorem Bare.write {B W : List Pr} (h : Bare W) {p : Pr} (hp : p.gone = true → p.value = ⟨#[]⟩) : Bare (writeW B W p) := fun q hq hg => by
  unfold writeW at hq
  split at hq
  · exact h q (mem_cut.1 hq).1 hg
  · rcases mem_putP hq with rfl | ⟨h1, _⟩
    · exact hp hg
    · exact h q h1 hg
theorem Bare.is {B W : List Pr} (h : Bare W) (hB : Rise B) (hW : Rise W) {p : Pr} (hp : p ∈ W) : (p.gone = true ∧ getL p.key (shownL B W) = none ∧ p = ⟨p.key, ⟨#[]⟩, true⟩) ∨ (p.gone = false ∧ ∃ q, getL p.key (shownL B W) = some q ∧ p = ⟨p.key, q.value, false⟩) := by
  have hs := get_shown hB hW hp
  cases hg : p.gone with
  | true =>
    refine .inl ⟨rfl, by rw [hs, hg]; rfl, ?_⟩
    have := h p hp hg
    cases p
    simp_all
  | false =>
    refine .inr ⟨rfl, _, by rw [hs, hg]; rfl, ?_⟩
    cases p
    simp_all
theorem put_is (k v : ByteArray) (B W : List Pr) : writeW B W ⟨k, v, false⟩ = putP ⟨k, v, false⟩ W := by
  unfold writeW
  rfl
theorem cut_is (k v : ByteArray) (B W : List Pr) : writeW B W ⟨k, v, true⟩ = if (getL k B).isSome then putP ⟨k, v, true⟩ W else cutL k W := by
  unfold writeW
  cases h : getL k B <;> simp
end Go.Proofs.YtbdokofdbeccdaaDoor.ViewKm

/- The plain mathematics of the landed walk: an entries' range, inodes as they are loaded. Names no program. -/
namespace Go.Proofs.YtbdokofdbeccdaaDoor.WalkKm
set_option linter.unusedVariables false
set_option linter.unusedSimpArgs false
open Go.Proofs.YtbdokofdbeccdaaDoor.Byte Go.Proofs.YtbdokofdbeccdaaDoor.PackM Go.Proofs.YtbdokofdbeccdaaDoor.KeysM Go.Proofs.YtbdokofdbeccdaaDoor.KeysV Go.Proofs.YtbdokofdbeccdaaDoor.TreeM Go.Proofs.YtbdokofdbeccdaaDoor.ViewM Go.Proofs.YtbdokofdbeccdaaDoor.ViewKm Go.Proofs.YtbdokofdbeccdaaDoor.NodeM Go.Proofs.YtbdokofdbeccdaaDoor.NamesM Go.Proofs.YtbdokofdbeccdaaDoor.WalkM Go.Proofs.YtbdokofdbeccdaaDoor.WalkF

theorem range_ent {L : List Pr} {a b : ByteArray} {P : Sp → Bool} (hr : Rng a b P) (hk : ∀ p ∈ L, (sp p.key).letter ≠ 0) : rangeL a b L = L.filter (fun p => P (sp p.key)) := by
  unfold rangeL
  refine List.filter_congr fun p hp => ?_
  rw [kl_lt, kl_lt]
  exact hr p.key (hk p hp)
theorem range_out {L : List Pr} {a b : ByteArray} (h : kl a b = false) : rangeL a b L = [] := by
  unfold rangeL
  refine List.filter_eq_nil_iff.2 fun p hp hh => ?_
  rw [Bool.and_eq_true, Bool.not_eq_true'] at hh
  obtain ⟨h1, h2⟩ := hh
  cases h3 : kl a p.key with
  | true =>
    have := kl_trans h3 h2
    rw [h] at this
    cases this
  | false =>
    have := kl_tri h1 h3
    rw [← this, h2] at h
    cases h
theorem rangeOf_is (s : Vs) (a b : ByteArray) : s.rangeOf a b = rangeL a b s.shown := by
  unfold Vs.rangeOf
  cases h : kl a b with
  | true => rfl
  | false => rw [range_out h]; rfl
theorem list_ent (dir : Int) (L : List Pr) : listM dir L = (L.filter (entB dir)).map (fun p => (sp p.key).name) := rfl
theorem map_nx {α β : Type} {L : List α} {k : Nat} {x : α} (h : L[k]? = some x) (f : α → β) : (L.take (k + 1)).map f = (L.take k).map f ++ [f x] := by
  obtain ⟨hk, he⟩ := List.getElem?_eq_some_iff.1 h
  rw [List.take_succ_eq_append_getElem hk, List.map_append, he]
  rfl
theorem load_none {L : List Pr} {ino : Int} (h : getL (kI ino) L = none) : loadM L ino = if ino = 1 then (⟨2, 2, 0, 1⟩, true) else (ino0, false) := by
  unfold loadM
  rw [h]
theorem load_some {L : List Pr} {ino : Int} {q : Pr} (h : getL (kI ino) L = some q) : loadM L ino = if gok q.value then (⟨gk q.value, gl q.value, gs q.value, gp q.value⟩, true) else (ino0, false) := by
  unfold loadM
  rw [h]
/-- Texts that a view shows are no longer than memory holds. -/
structure VsB (s : Vs) : Prop where
  base : ∀ p ∈ s.base, p.value.size ≤ 200000000000000
  wr : ∀ p ∈ s.wr, p.value.size ≤ 200000000000000
theorem VsB.new {L : List Pr} (h : ∀ p ∈ L, p.value.size ≤ 200000000000000) : VsB ⟨L, [], [], []⟩ := ⟨h, fun p hp => by cases hp⟩
theorem VsB.read {s : Vs} (h : VsB s) (k : ByteArray) : VsB (s.read k) := ⟨h.base, h.wr⟩
theorem VsB.ranged {s : Vs} (h : VsB s) (a b : ByteArray) : VsB (s.ranged a b) := by
  unfold Vs.ranged
  split
  · exact ⟨h.base, h.wr⟩
  · exact h
theorem VsB.write {s : Vs} (h : VsB s) {p : Pr} (hp : p.value.size ≤ 200000000000000) : VsB (s.write p) := by
  unfold Vs.write
  split
  · exact h
  · refine ⟨h.base, fun q hq => ?_⟩
    have hq' : q ∈ writeW s.base s.wr p := hq
    unfold writeW at hq'
    split at hq'
    · exact h.wr q (List.mem_filter.1 hq').1
    · rcases mem_putP hq' with rfl | ⟨h1, _⟩
      · exact hp
      · exact h.wr q h1
theorem VsB.shown {s : Vs} (h : VsB s) (ho : s.Ok) {q : Pr} (hq : q ∈ s.shown) : q.value.size ≤ 200000000000000 := by
  rcases (mem_shown ho.wr).1 hq with ⟨x, hx, _, rfl⟩ | ⟨h1, _⟩
  · exact h.wr x hx
  · exact h.base q h1
theorem get_in {k : ByteArray} {L : List Pr} {q : Pr} (h : getL k L = some q) : q ∈ L := List.mem_of_find?_eq_some h
/-! ### Find -/
def withinM (L : List Pr) (dir : Int) (name : ByteArray) : Spot := if (childM L dir name).2 && (loadM L (childM L dir name).1).2 then ⟨dir, name, (childM L dir name).1, (loadM L (childM L dir name).1).1⟩ else ⟨dir, name, 0, ino0⟩
theorem step_within (L : List Pr) (x : Spot) (name : ByteArray) : stepM L x name = withinM L x.ino name := rfl
/-- Behind the child's name: its inode is read where the entry is one. -/
def readW (s : Vs) (dir : Int) (name : ByteArray) : Vs := if (childM s.shown dir name).2 then (s.read (kE dir name)).read (kI (childM s.shown dir name).1) else s.read (kE dir name)
/-- Behind so many names: what was read, and where it stands. -/
structure Fnd (s s' : Vs) (x : Spot) (k : Nat) : Prop where
  base : s'.base = s.base
  wr : s'.wr = s.wr
  rg : s'.rg = s.rg
  keep : ∀ q, hasK q s.rd → hasK q s'.rd
  root : hasK (kI 1) s'.rd
  ent : x.name ≠ ⟨#[]⟩ → hasK (kE x.dir x.name) s'.rd
  ino : x.ino ≠ 0 → hasK (kI x.ino) s'.rd
  dir : x.dir ≠ 0 → hasK (kI x.dir) s'.rd
  len : s'.rd.length ≤ s.rd.length + 1 + 2 * k
  small : ∀ p ∈ s'.rd, p ∈ s.rd ∨ p.key.size ≤ 100000
  bd : SpotB x
theorem read_small {s s' : Vs} {k : ByteArray} (hk : k.size ≤ 100000) (h : ∀ p ∈ s'.rd, p ∈ s.rd ∨ p.key.size ≤ 100000) : ∀ p ∈ (s'.read k).rd, p ∈ s.rd ∨ p.key.size ≤ 100000 := fun p hp => by
  rcases mem_putP (show p ∈ putP ⟨k, ⟨#[]⟩, false⟩ s'.rd from hp) with rfl | ⟨h1, _⟩
  · exact .inr hk
  · exact h p h1
theorem read_len (s : Vs) (k : ByteArray) : (s.read k).rd.length ≤ s.rd.length + 1 := putP_len _ _
theorem ki_sz (ino : Int) : (kI ino).size ≤ 100000 := by unfold kI; rw [ks_size]; omega
theorem ke_sz (dir : Int) (name : ByteArray) : (kE dir name).size ≤ 100000 := by
  unfold kE
  split
  · decide
  · rw [ByteArray.size_append, ks_size]; omega
theorem fnd_start (s : Vs) (L : List Pr) : Fnd s (s.read (kI 1)) ⟨0, ⟨#[]⟩, 1, (loadM L 1).1⟩ 0 where
  base := rfl
  wr := rfl
  rg := rfl
  keep := fun q h => hasK_keep h _ _
  root := hasK_put _ _ _ _
  ent := fun h => absurd rfl h
  ino := fun _ => hasK_put _ _ _ _
  dir := fun h => absurd rfl h
  len := by have := read_len s (kI 1); omega
  small := read_small (ki_sz 1) (fun p hp => .inl hp)
  bd := ⟨(show (0 : Int) ≤ 0 by decide), (show (0 : Int) ≤ 4294967295 by decide), (show (0 : Int) ≤ 1 by decide), (show (1 : Int) ≤ 4294967295 by decide), (show (0 : Nat) ≤ 32 by decide)⟩
theorem Fnd.shown {s s' : Vs} {x : Spot} {k : Nat} (h : Fnd s s' x k) : s'.shown = s.shown := by
  unfold Vs.shown
  rw [h.base, h.wr]
theorem Fnd.step {s s' : Vs} {x : Spot} {k : Nat} (h : Fnd s s' x k) (hx : x.ino ≠ 0) {name : ByteArray} (hn : name.size ≤ 32) : Fnd s (readW s' x.ino name) (withinM s'.shown x.ino name) (k + 1) := by
  have hbd : SpotB (withinM s'.shown x.ino name) := by rw [← step_within]; exact step_bd h.bd hn
  have hdir : (withinM s'.shown x.ino name).dir = x.ino ∧ (withinM s'.shown x.ino name).name = name := by
    unfold withinM
    split <;> exact ⟨rfl, rfl⟩
  have hk : ∀ q, hasK q s'.rd → hasK q (readW s' x.ino name).rd := fun q hq => by
    unfold readW
    split
    · exact hasK_keep (hasK_keep hq _ _) _ _
    · exact hasK_keep hq _ _
  have hE : hasK (kE x.ino name) (readW s' x.ino name).rd := by
    unfold readW
    split
    · exact hasK_keep (hasK_put _ _ _ _) _ _
    · exact hasK_put _ _ _ _
  refine ⟨?_, ?_, ?_, fun q hq => hk q (h.keep q hq), hk _ h.root, fun _ => by rw [hdir.1, hdir.2]; exact hE, fun hi => ?_, fun _ => by rw [hdir.1]; exact hk _ (h.ino hx), ?_, ?_, hbd⟩
  · unfold readW; split <;> exact h.base
  · unfold readW; split <;> exact h.wr
  · unfold readW; split <;> exact h.rg
  · unfold withinM at hi ⊢
    cases hc : (childM s'.shown x.ino name).2 with
    | false => rw [hc] at hi; exact absurd rfl hi
    | true =>
      rw [hc] at hi
      unfold readW
      rw [if_pos hc]
      cases hq : (loadM s'.shown (childM s'.shown x.ino name).1).2 with
      | false => rw [hq] at hi; exact absurd rfl hi
      | true => exact hasK_put _ _ _ _
  · have hl := h.len
    unfold readW
    split
    · have h1 := read_len s' (kE x.ino name)
      have h2 := read_len (s'.read (kE x.ino name)) (kI (childM s'.shown x.ino name).1)
      omega
    · have h1 := read_len s' (kE x.ino name)
      omega
  · unfold readW
    split
    · exact read_small (ki_sz _) (read_small (ke_sz _ _) h.small)
    · exact read_small (ke_sz _ _) h.small
theorem Fnd.lim {s s' : Vs} {x : Spot} {k : Nat} (h : Fnd s s' x k) (hl : s.rd.length ≤ 900) (hk : k ≤ 16) : s'.rd.length ≤ 990 := by have := h.len; omega
/-- What it answers, and what it read. -/
theorem fndr_ok {s s' : Vs} {x : Spot} {k : Nat} (h : Fnd s s' x k) (hk : k ≤ 16) {path : ByteArray} (hs : (spl path).2 = 0) {y : Spot} {er : Int} (hf : findM s.shown path = (y, er)) (hy : er = 0 → y = x) : FindR s path s' where
  base := h.base
  wr := h.wr
  rg := h.rg
  none_ := fun hn => absurd hs hn
  keep := h.keep
  root := fun _ => h.root
  ent := fun _ h2 h3 => by rw [hf] at h2 h3 ⊢; rw [hy h2] at h3 ⊢; exact h.ent h3
  ino := fun _ h2 h3 => by rw [hf] at h2 h3 ⊢; rw [hy h2] at h3 ⊢; exact h.ino h3
  dir := fun _ h2 h3 => by rw [hf] at h2 h3 ⊢; rw [hy h2] at h3 ⊢; exact h.dir h3
  len := by have := h.len; omega
  small := h.small
theorem fndr_no {s : Vs} {path : ByteArray} (hs : (spl path).2 ≠ 0) : FindR s path s where
  base := rfl
  wr := rfl
  rg := rfl
  none_ := fun _ => rfl
  keep := fun _ h => h
  root := fun h => absurd h hs
  ent := fun h => absurd h hs
  ino := fun h => absurd h hs
  dir := fun h => absurd h hs
  len := Nat.le_add_right _ _
  small := fun p hp => .inl hp
theorem find_no {L : List Pr} {path : ByteArray} (hs : (spl path).2 ≠ 0) : findM L path = (spot0, (spl path).2) := if_pos hs
theorem find_yes {L : List Pr} {path : ByteArray} (hs : (spl path).2 = 0) : findM L path = findL L ⟨0, ⟨#[]⟩, 1, (loadM L 1).1⟩ (spl path).1 := if_neg (fun h => h hs)
theorem findl_end (L : List Pr) (x : Spot) {l : List ByteArray} {k : Nat} (h : l.length ≤ k) : findL L x (l.drop k) = (x, 0) := by
  rw [List.drop_eq_nil_of_le h]
  rfl
theorem findl_at {L : List Pr} {x : Spot} {l : List ByteArray} {k : Nat} {name : ByteArray} (h : l[k]? = some name) : findL L x (l.drop k) = if x.ino = 0 then (spot0, 10) else if x.node.k ≠ 2 then (spot0, 12) else findL L (withinM L x.ino name) (l.drop (k + 1)) := by
  obtain ⟨hk, he⟩ := List.getElem?_eq_some_iff.1 h
  rw [List.drop_eq_getElem_cons hk, he]
  rfl
end Go.Proofs.YtbdokofdbeccdaaDoor.WalkKm

/- What is asked of the project's view, and that what it shows is no longer than memory holds: for layers above it. -/
namespace Go.Proofs.YtbdokofdbeccdaaDoor.WalkV
set_option linter.unusedVariables false
set_option linter.unusedSimpArgs false
open Go.RowKit
open Go.Proofs.YtbdokofdbeccdaaDoor.Byte Go.Proofs.YtbdokofdbeccdaaDoor.KeysM Go.Proofs.YtbdokofdbeccdaaDoor.TreeM Go.Proofs.YtbdokofdbeccdaaDoor.ViewM Go.Proofs.YtbdokofdbeccdaaDoor.WalkKm Go.Proofs.YtbdokofdbeccdaaDoor.Chg Go.Proofs.YtbdokofdbeccdaaDoor.TreeG Go.Proofs.YtbdokofdbeccdaaDoor.TreeH Go.Proofs.YtbdokofdbeccdaaDoor.ViewL Go.Proofs.YtbdokofdbeccdaaDoor.ViewP Go.Proofs.YtbdokofdbeccdaaDoor.WalkL

def VB (Rep : RepT) : RepT := fun w v s S D => Rep w v s S D ∧ VsB s
variable {Rep : RepT}
def NewB (Rep : RepT) : Prop := ∀ ⦃w t L h⦄, TRep w t L h → L.length ≤ 100 → (∀ p ∈ L, p.value.size ≤ 200000000000000) → Calls Tryd.prog 6 #[t] w fun e w' => ∃ v S D, e = .returned v ∧ Rep w' v ⟨L, [], [], []⟩ S D ∧ (∀ b, S b → w.heap.size ≤ b) ∧ (∀ b, D b → w.heap.size ≤ b) ∧ Below w.heap.size w w'
theorem stays_b (h : Stays Rep) : Stays (VB Rep) where
  stay := fun r c hT k => ⟨h.stay r.1 c hT k, r.2⟩
  ok := fun r => h.ok r.1
  lt := fun r => h.lt r.1
  sub := fun r => h.sub r.1
theorem new_b (h : NewOk Rep) : NewB (VB Rep) := fun _ _ _ _ r hl hb => (h r hl).mono fun _ _ ⟨v, S, D, e, hr, h1, h2, h3⟩ => ⟨v, S, D, e, ⟨hr, VsB.new hb⟩, h1, h2, h3⟩
theorem get_b (h : GetOk Rep) : GetOk (VB Rep) := fun _ _ _ _ _ k r hl hk => (h k r.1 hl hk).mono fun _ _ ⟨S', D', e, hr, st⟩ => ⟨S', D', e, ⟨hr, r.2.read k⟩, st⟩
theorem range_b (h : RangeOk Rep) : RangeOk (VB Rep) := fun _ _ _ _ _ x y r hl hx hy => (h x y r.1 hl hx hy).mono fun _ _ ⟨q, S', D', e, h1, h2, hr, st⟩ => ⟨q, S', D', e, h1, h2, ⟨hr, r.2.ranged x y⟩, st⟩
theorem set_b (h : ViewL.SetOk Rep) : ViewL.SetOk (VB Rep) := fun _ _ _ _ _ k x r hl hk hx => (h k x r.1 hl hk hx).mono fun _ _ ⟨S', D', e, hr, st⟩ => ⟨S', D', e, ⟨hr, r.2.write hx⟩, st⟩
theorem cut_b (h : CutOk Rep) : CutOk (VB Rep) := fun _ _ _ _ _ k r hl hk => (h k r.1 hl hk).mono fun _ _ ⟨S', D', e, hr, st⟩ => ⟨S', D', e, ⟨hr, r.2.write (p := ⟨k, ⟨#[]⟩, true⟩) (show (0 : Nat) ≤ 200000000000000 from Nat.zero_le _)⟩, st⟩
theorem reads_b (h : ReadsOk Rep) : ReadsOk (VB Rep) := fun _ _ _ _ _ r hl => h r.1 hl
end Go.Proofs.YtbdokofdbeccdaaDoor.WalkV

/- A view in the course of a function of a layer above it: how it stands, which blocks are the function's own. Generic. -/
namespace Go.Proofs.YtbdokofdbeccdaaDoor.Vat
set_option linter.unusedVariables false
set_option linter.unusedSimpArgs false
open Go.RowKit
open Go.Proofs.YtbdokofdbeccdaaDoor.Byte Go.Proofs.YtbdokofdbeccdaaDoor.TreeM Go.Proofs.YtbdokofdbeccdaaDoor.ViewM Go.Proofs.YtbdokofdbeccdaaDoor.Lst Go.Proofs.YtbdokofdbeccdaaDoor.Chg Go.Proofs.YtbdokofdbeccdaaDoor.TreeL Go.Proofs.YtbdokofdbeccdaaDoor.ViewL Go.Proofs.YtbdokofdbeccdaaDoor.WalkL
open Go.Proofs.YtbdokofdbeccdaaDoor.Own hiding keeps

/-- Since w0, where it leaned on D0 and wrote S0 alone, a view has come to stand so; the blocks M are the function's own. -/
structure At (Rep : RepT) (w0 : World) (S0 D0 M : Nat → Prop) (w : World) (v : Value) (s : Vs) (S D : Nat → Prop) : Prop where
  rep : Rep w v s S D
  st : Stp S0 D0 S D w0 w
  mine : ∀ b, M b → w0.heap.size ≤ b ∧ b < w.heap.size ∧ ¬ D b
variable {Rep : RepT} {w0 w w' : World} {S0 D0 M S D S' D' : Nat → Prop} {v : Value} {s s' : Vs}
theorem Stp.refl (S D : Nat → Prop) (w : World) : Stp S D S D w w := ⟨Chg.refl _ _, fun _ _ _ _ _ h => h, Grow.refl _ _, Grow.refl _ _⟩
theorem At.start (h : Rep w v s S D) : At Rep w S D (fun _ => False) w v s S D := ⟨h, Stp.refl _ _ _, fun _ h => h.elim⟩
/-- Only the function's own blocks were written, and new ones made. -/
theorem At.chg (hS : Stays Rep) (p : At Rep w0 S0 D0 M w v s S D) {Q : Nat → Prop} (hc : Chg Q w w') (hk : Kept w w') (hQ : ∀ b, Q b → b < w.heap.size → M b) : At Rep w0 S0 D0 M w' v s S D := by
  have hc' : Chg M w w' := hc.mono (fun k hk hq => hQ k hq hk)
  refine ⟨hS.stay p.rep hc' (fun b hb => (p.mine b hb).2.2) hk, ⟨p.st.chg.then_ hc' (fun i hi hm => ?_), kept_trans p.st.kept hk, p.st.own, p.st.dep⟩, fun b hb => ?_⟩
  · have := (p.mine i hm).1
    omega
  · have h1 := p.mine b hb
    exact ⟨h1.1, Nat.lt_of_lt_of_le h1.2.1 hc.size, h1.2.2⟩
theorem At.below (hS : Stays Rep) (p : At Rep w0 S0 D0 M w v s S D) (hb : Below w.heap.size w w') : At Rep w0 S0 D0 M w' v s S D :=
  p.chg hS (Q := fun _ => False) (Chg.of_below hb) (Kept.of_below hb) (fun _ h => h.elim)
/-- Blocks that were made meanwhile are the function's own. -/
theorem At.own (hS : Stays Rep) (p : At Rep w0 S0 D0 M w v s S D) (hb : Below w.heap.size w w') {r : Nat} (h1 : w.heap.size ≤ r) (h2 : r < w'.heap.size) : At Rep w0 S0 D0 (fun b => M b ∨ b = r) w' v s S D := by
  have q := p.below hS hb
  refine ⟨q.rep, q.st, fun b hb => ?_⟩
  rcases hb with hb | rfl
  · exact q.mine b hb
  · have h3 := p.st.chg.size
    exact ⟨by omega, h2, fun hd => by have := hS.lt p.rep b hd; omega⟩
/-- As At.own, for whatever blocks. -/
theorem At.owns (hS : Stays Rep) (p : At Rep w0 S0 D0 M w v s S D) (hb : Below w.heap.size w w') {Q : Nat → Prop} (hQ : ∀ b, Q b → w.heap.size ≤ b ∧ b < w'.heap.size) : At Rep w0 S0 D0 (fun b => M b ∨ Q b) w' v s S D := by
  have q := p.below hS hb
  refine ⟨q.rep, q.st, fun b hq => ?_⟩
  rcases hq with hq | hq
  · exact q.mine b hq
  · have h3 := p.st.chg.size
    have h4 := hQ b hq
    exact ⟨by omega, h4.2, fun hd => by have := hS.lt p.rep b hd; omega⟩
theorem At.step (hS : Stays Rep) (p : At Rep w0 S0 D0 M w v s S D) (hr : Rep w' v s' S' D') (st : Stp S D S' D' w w') : At Rep w0 S0 D0 M w' v s' S' D' := by
  refine ⟨hr, ⟨p.st.chg.then_ st.chg (fun i hi hm => ?_), kept_trans p.st.kept st.kept, p.st.own.trans st.own p.st.chg.size, p.st.dep.trans st.dep p.st.chg.size⟩, fun b hb => ?_⟩
  · rcases p.st.own i hm with h | h
    · exact h
    · omega
  · have h1 := p.mine b hb
    refine ⟨h1.1, Nat.lt_of_lt_of_le h1.2.1 st.chg.size, fun hd => ?_⟩
    rcases st.dep b hd with h | h
    · exact h1.2.2 h
    · omega
theorem At.stored (hS : Stays Rep) (p : At Rep w0 S0 D0 M w v s S D) {r : Nat} {cs : Array Value} {T : TypeId} (h : Blk w r cs T) (hr : M r) (hne : 60 ≠ T ∧ 113 ≠ T) (hg : w.grownBy w' (some r)) : At Rep w0 S0 D0 M w' v s S D :=
  p.chg hS (Q := fun b => b = r) (Chg.of_grown hg (fun k e => .inl (by injection e with e; exact e.symm))) (ViewP.kept_grown h hne hg) (fun b e _ => by subst e; exact hr)
theorem At.set (hS : Stays Rep) (p : At Rep w0 S0 D0 M w v s S D) {r : Nat} {cs : Array Value} {T : TypeId} (h : Blk w r cs T) (hr : M r) (hne : 60 ≠ T ∧ 113 ≠ T) (i : Nat) (u : Value) : At Rep w0 S0 D0 M (w.setCell ⟨r, i, none⟩ u) v s S D :=
  p.chg hS (Q := fun b => b = r) ((Chg.refl (fun b => b = r) w).setCell (p := ⟨r, i, none⟩) (.inl rfl) u) (ViewD.kept_set h hne i u) (fun b e _ => by subst e; exact hr)
/-- A row of the function's own grew. -/
theorem At.grown (hS : Stays Rep) (p : At Rep w0 S0 D0 M w v s S D) {α : Type} {e : Enc α} {T : TypeId} {base n : Nat} {u : Value} {L : List α} (h : So e T w base u n L) (hr : ∀ r, u.ownBlock = some r → M r) (hne : 60 ≠ T ∧ 113 ≠ T) (hg : w.grownBy w' u.ownBlock) : At Rep w0 S0 D0 M w' v s S D :=
  p.chg hS (Q := fun b => u.ownBlock = some b) (Chg.of_grown hg (fun k e => .inl e)) (Kept.of_grown h hg hne) (fun b e _ => hr b e)
theorem At.apart (hS : Stays Rep) (p : At Rep w0 S0 D0 M w v s S D) {r : Nat} (hr : M r) : ¬ S r := fun h => (p.mine r hr).2.2 (hS.sub p.rep r h)
/-- A block of the function's own stays, whatever the view's methods do. -/
theorem At.blk (hS : Stays Rep) (p : At Rep w0 S0 D0 M w v s S D) {r : Nat} {cs : Array Value} {T : TypeId} (h : Blk w r cs T) (hr : M r) (st : Stp S D S' D' w w') : Blk w' r cs T := (st.chg.block r h.lt (p.apart hS hr)).trans h
/-- A row of the function's own stays, too. -/
theorem At.sl (hS : Stays Rep) (p : At Rep w0 S0 D0 M w v s S D) {α : Type} {e : Enc α} {A : Option Addr} {n : Nat} {L : List α} (h : Sl e w A n L) (hA : ∀ b o, A = some ⟨b, o, none⟩ → M b) (st : Stp S D S' D' w w') : Sl e w' A n L :=
  Chg.Sl.chg h st.chg (fun b o e => p.apart hS (hA b o e))
theorem At.size (p : At Rep w0 S0 D0 M w v s S D) : w0.heap.size ≤ w.heap.size := p.st.chg.size
end Go.Proofs.YtbdokofdbeccdaaDoor.Vat
