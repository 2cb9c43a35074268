/- SortedFunc, and the project's isWhole. -/
import Derived.Test.YthmcakaboebagaaRingJ
import Derived.Test.YthmcakaboebagaaRingE
import Derived.IntWalk
namespace Go.Proofs.Ythmcakaboebagaa.RingA
set_option linter.unusedVariables false
set_option linter.unusedSimpArgs false
open Go.RowKit Go.Shelf
open Go.Proofs.Ythmcakaboebagaa.Byte Go.Proofs.Ythmcakaboebagaa.RingM Go.Proofs.Ythmcakaboebagaa.RingN Go.Proofs.Ythmcakaboebagaa.RingC Go.Proofs.Ythmcakaboebagaa.RingK Go.Proofs.Ythmcakaboebagaa.RingF Go.Proofs.Ythmcakaboebagaa.RingS Go.Proofs.Ythmcakaboebagaa.RingU Go.Proofs.Ythmcakaboebagaa.RingJ Go.Proofs.Ythmcakaboebagaa.RingE Go.Proofs.Ythmcakaboebagaa.Own
attribute [local go_sem] Own.run_store_complex

section
variable {n : Nat}
def nums (M : List (Fin n)) (j : Nat) : Int := ((M[j]?).map (fun x => (x.val : Int))).getD 0
theorem first_nums (M : List (Fin n)) : (first (nums M) M.length).map (Value.int .i64) = M.map enc := by
  apply List.ext_getElem?
  intro j
  unfold first nums
  rcases Nat.lt_or_ge j M.length with h | h
  · simp [h, enc]
  · simp [h]
set_option maxHeartbeats 1000000 in
theorem sorted_calls [Inhabited (Fin n)] (L : List Fnd) (c b o bl bm : Nat) (M : List (Fin n)) (W : World) (hn : n ≤ 100000) (h0 : 0 < M.length) (hl : M.length ≤ 100000) (hlt : bl < W.heap.size) (hblt : b < W.heap.size) (hv : W.cell? ⟨bl, 0, none⟩ = some (.slice (some ⟨b, o, none⟩) n c)) (hF : FsAt W (some ⟨b, o, none⟩) n L)
    (hB : Boxes W bm W.heap.size M.length (nums M)) :
    Calls Try.prog 27 #[.func (.func 35) #[] #[.pointer (some ⟨bm, 0, none⟩)], .func (.func 29) #[] #[.pointer (some ⟨bl, 0, none⟩)]] W fun e w' => ∃ (g cap : Nat) (M' : List (Fin n)), e = .returned (.slice (some ⟨g, 0, none⟩) M.length cap) ∧ M'.Perm M ∧ Rising L M' ∧ (∀ (j : Nat) (x : Fin n), M'[j]? = some x → w'.cell? ⟨g, j, none⟩ = some (.int .i64 (x.val : Int))) ∧ W.heap.size ≤ g ∧ g < w'.heap.size ∧ Below W.heap.size W w' := by
  have HC := Lib.hid (collect_calls bm M.length (nums M) hl W hB)
  have HV := Lib.hid hv
  have HF := Lib.hid hF
  clear hv hF hB
  go_enter Try.func27, Try.ntmps27
  go_wp2_with fail
  refine (HC.out).mono ?_
  rintro e w1 ⟨v, rfl, hown, hb1⟩
  rw [first_nums] at hown
  obtain ⟨g, cap, rfl⟩ : ∃ g cap, v = .slice (some ⟨g, 0, none⟩) M.length cap := by
    rcases hown.2 with ⟨_, h1⟩ | ⟨g, cap, cur, rfl, r⟩
    · omega
    · exact ⟨g, cap, rfl⟩
  have hgp := hown.lt g rfl
  have HS := Lib.hid (sort_calls L c b o bl g cap W.heap.size M w1 hn hl (Nat.lt_of_lt_of_le hlt hb1.size) ((hb1.cell (p := ⟨bl, 0, none⟩) hlt).trans HV.out) (HF.out.below hb1) (by omega) (by omega) hown)
  have HB1 := Lib.hid hb1
  clear hown hb1
  go_wp2_with fail
  refine (HS.out).mono ?_
  rintro e w2 ⟨rfl, M', hp, hr, hc, hg⟩
  have HP := Lib.hid hp
  have HR := Lib.hid hr
  have HCC := Lib.hid hc
  have HB2 : Hid (Below W.heap.size W w2) := Lib.hid (HB1.out.grown hg HB1.out.size (by intro k hk; injection hk with hk; omega))
  have hg2 := hg.size
  clear hp hr hc hg
  go_wp2_with fail
  go_ret
  exact ⟨g, cap, M', rfl, HP.out, HR.out, HCC.out, hgp.1, by omega, HB2.out⟩
/-- The found item of this number. -/
def fn (L : List Fnd) (i : Nat) : Fnd := (L[i]?).getD ⟨0, 0, 0, false, none_⟩
/-- Is the item at this number of the row right? -/
def okAt (L : List Fnd) (M : List (Fin n)) (i : Nat) : Prop :=
  ∀ x y : Fin n, M[i]? = some x → M[(i + 1) % M.length]? = some y → (fn L x).item.count = M.length ∧ (fn L x).item.index = i ∧ ceq (fn L x).item.re (fn L x).item.im (fn L y).re (fn L y).im = true
theorem neq_place {a b c d : Nat} {r : Bool} (w : World) (h : ceq a b c d = r) : (binOp .neq 31 (.complex .f64 a b) (.complex .f64 c d)).run Try.prog w = .ok (.bool (!r)) w := by
  subst h
  unfold ceq
  simp [binOp, Op.complexOp, Op.Complex.cmp, Op.floatCmp, asBool, Bool.not_and]
/-- What isWhole answers: by the row in the order of the indexes. -/
def WholeE (L : List Fnd) (M : List (Fin n)) (w : World) (e : Ending) (w' : World) : Prop :=
  ∃ (M' : List (Fin n)) (r : Bool), e = .returned (.bool r) ∧ M'.Perm M ∧ Rising L M' ∧ (r = true ↔ ∀ i, i < M.length → okAt L M' i) ∧ Below w.heap.size w w'
theorem WholeE.no {L : List Fnd} {M M' : List (Fin n)} {w w' : World} {k : Nat} (hp : M'.Perm M) (hr : Rising L M') (hk : k < M.length) (hno : ¬ okAt L M' k) (hb : Below w.heap.size w w') : WholeE L M w (.returned (.bool false)) w' :=
  ⟨M', false, rfl, hp, hr, ⟨(fun h => by cases h), fun h => absurd (h k hk) hno⟩, hb⟩
theorem WholeE.yes {L : List Fnd} {M M' : List (Fin n)} {w w' : World} (hp : M'.Perm M) (hr : Rising L M') (hall : ∀ i, i < M.length → okAt L M' i) (hb : Below w.heap.size w w') : WholeE L M w (.returned (.bool true)) w' :=
  ⟨M', true, rfl, hp, hr, ⟨fun _ => hall, fun _ => rfl⟩, hb⟩
set_option maxRecDepth 100000 in
set_option maxHeartbeats 4000000 in
theorem whole_calls [Inhabited (Fin n)] (L : List Fnd) (c b o bq oq cq : Nat) (M : List (Fin n)) (w : World) (hn : n ≤ 100000) (h0 : 0 < M.length) (hl : M.length ≤ 100000) (hblt : b < w.heap.size) (hF : FsAt w (some ⟨b, o, none⟩) n L)
    (hq : bq < w.heap.size) (hM : ∀ j (x : Fin n), M[j]? = some x → w.cell? ⟨bq, oq + j, none⟩ = some (.int .i64 (x.val : Int))) :
    Calls Try.prog 19 #[.slice (some ⟨b, o, none⟩) n c, .slice (some ⟨bq, oq, none⟩) M.length cq] w (WholeE L M w) := by
  obtain ⟨len, hlen⟩ : ∃ len, M.length = len := ⟨_, rfl⟩
  have HL := Lib.hid hlen
  have HF := Lib.hid hF
  have HM := Lib.hid hM
  obtain ⟨W, hW⟩ : ∃ W, (w.alloc (.cells #[.slice (some ⟨b, o, none⟩) n c] 28)).alloc (.cells #[.slice (some ⟨bq, oq, none⟩) len cq] 57) = W := ⟨_, rfl⟩
  have hbw : Below w.heap.size w W := by rw [← hW]; exact ((Below.refl _ _).alloc (Nat.le_refl _) _).alloc (by simp) _
  have hbox : Blk W w.heap.size #[.slice (some ⟨b, o, none⟩) n c] 28 := by rw [← hW]; exact (Blk.new_ w _ _).alloc _
  have hbox2 : Blk W (w.heap.size + 1) #[.slice (some ⟨bq, oq, none⟩) len cq] 57 := by
    rw [← hW]
    have := Blk.new_ (w.alloc (.cells #[.slice (some ⟨b, o, none⟩) n c] 28)) #[.slice (some ⟨bq, oq, none⟩) len cq] 57
    simpa using this
  have hS := sorted_calls L c b o w.heap.size (w.heap.size + 1) M W hn h0 hl hbox.lt (Nat.lt_of_lt_of_le hblt hbw.size) (hbox.cell 0) (hF.below hbw) ⟨⟨bq, oq, cq, by rw [hlen]; exact hbox2.cell 0, Nat.lt_of_lt_of_le hq hbw.size, fun j hj => by
    have e : M[j]? = some M[j] := List.getElem?_eq_getElem hj
    unfold nums
    rw [e, (hbw.cell (p := ⟨bq, oq + j, none⟩) hq), hM j _ e]
    rfl⟩, hbox2.lt⟩
  have HS := Lib.hid hS
  rw [hlen] at HS h0 hl ⊢
  have HBX := Lib.hid hbox
  have HBW := Lib.hid hbw
  have hws := hbw.size
  have hbl := hbox.lt
  clear hF hM hlen hbw hbox hbox2 hS
  go_enter Try.func19, Try.ntmps19
  go_wp2_with (go_at_call 28; refine (values_calls _ _ _ _).mono ?_; rintro e w' ⟨rfl, rfl⟩)
  refine HS.out.mono ?_
  rintro e w2 ⟨g, cap, M', rfl, hp, hr, hc, hg1, hg2, hb2⟩
  have hl2 : M'.length = len := by rw [hp.length_eq]; exact HL.out
  have HP := Lib.hid hp
  have HR := Lib.hid hr
  have HC := Lib.hid hc
  have HLL := Lib.hid hl2
  have HB2 := Lib.hid (keeps HBW.out hb2)
  have HF2 := Lib.hid (HF.out.below HB2.out)
  have HX2 := Lib.hid (HBX.out.below hb2)
  have hz2 := hb2.size
  clear hp hr hc hl2 hb2
  go_wp2_with fail
  go_loopw [14] (fun i wr => ∃ k : Nat, k ≤ len ∧ i = .int .i64 k ∧ Below w2.heap.size w2 wr ∧ Hid (∀ j, j < k → okAt L M' j)) (fun i _ => len - (intOf i).toNat)
  case atStart => exact ⟨0, Nat.zero_le _, rfl, Below.refl _ _, Lib.hid (fun j hj => by omega)⟩
  case round =>
    obtain ⟨k, hk, rfl, hbel, HOK⟩ := hrel
    have HBL := Lib.hid hbel
    by_cases hlt : k < len
    · have hkM : k < M'.length := by rw [HLL.out]; exact hlt
      have hr : (k + 1) % len < len := Nat.mod_lt _ h0
      have hrM : (k + 1) % len < M'.length := by rw [HLL.out]; exact hr
      obtain ⟨x, hx⟩ : ∃ x, M'[k]? = some x := ⟨_, List.getElem?_eq_getElem hkM⟩
      obtain ⟨y, hy⟩ : ∃ y, M'[(k + 1) % len]? = some y := ⟨_, List.getElem?_eq_getElem hrM⟩
      have hxl : x.val < L.length := by rw [HF2.out.1]; exact x.isLt
      have hyl : y.val < L.length := by rw [HF2.out.1]; exact y.isLt
      have ex : L[x.val]? = some (fn L x.val) := by unfold fn; rw [List.getElem?_eq_getElem hxl]; rfl
      have ey : L[y.val]? = some (fn L y.val) := by unfold fn; rw [List.getElem?_eq_getElem hyl]; rfl
      have HOKE : Hid (okAt L M' k ↔ ((fn L x.val).item.count = len ∧ (fn L x.val).item.index = k ∧ ceq (fn L x.val).item.re (fn L x.val).item.im (fn L y.val).re (fn L y.val).im = true)) := Lib.hid (by
        unfold okAt
        rw [HLL.out]
        constructor
        · intro h
          exact h x y hx hy
        · intro h x' y' hx' hy'
          rw [hx] at hx'
          rw [hy] at hy'
          injection hx' with hx'
          injection hy' with hy'
          subst hx' hy'
          exact h)
      have hFr := HF2.out.below hbel
      have rx := (hFr.at_ x.val _ ex).2
      have hbr := (hFr.at_ x.val _ ex).1
      have cyr := (hFr.at_ y.val _ ey).2 0 (.complex .f64 (fn L y.val).re (fn L y.val).im) rfl
      have cbx : wr.cell? ⟨w.heap.size, 0, none⟩ = some (.slice (some ⟨b, o, none⟩) n c) := (HX2.out.below hbel).cell 0
      have cgk : wr.cell? ⟨g, k, none⟩ = some (.int .i64 (x.val : Int)) := (hbel.cell (p := ⟨g, k, none⟩) hg2).trans (HC.out k x hx)
      have cgr : wr.cell? ⟨g, (k + 1) % len, none⟩ = some (.int .i64 (y.val : Int)) := (hbel.cell (p := ⟨g, (k + 1) % len, none⟩) hg2).trans (HC.out _ y hy)
      have hmod : ((k : Int) + 1) % (len : Int) = (((k + 1) % len : Nat) : Int) := by rw [show ((k : Int) + 1) = ((k + 1 : Nat) : Int) by omega]; rfl
      have hxn := x.isLt
      have hyn := y.isLt
      obtain ⟨xi, hxi⟩ : ∃ xi, x.val = xi := ⟨_, rfl⟩
      obtain ⟨yi, hyi⟩ : ∃ yi, y.val = yi := ⟨_, rfl⟩
      obtain ⟨ri, hri⟩ : ∃ ri, (k + 1) % len = ri := ⟨_, rfl⟩
      rw [hxi] at rx cgk hxn HOKE
      rw [hyi] at cyr cgr hyn HOKE
      rw [hri] at cgr hmod hr
      obtain ⟨yre, hyre⟩ : ∃ z, (fn L yi).re = z := ⟨_, rfl⟩
      obtain ⟨yim, hyim⟩ : ∃ z, (fn L yi).im = z := ⟨_, rfl⟩
      rw [hyre, hyim] at cyr HOKE
      obtain ⟨f, hf⟩ : ∃ f, fn L xi = f := ⟨_, rfl⟩
      rw [hf] at rx HOKE
      obtain ⟨fre, fim, fsz, fst, ⟨seq, ver, index, count, re, im, gone, key, value⟩⟩ := f
      dsimp only at HOKE
      have HRX : Hid (wr.rangeAt b (o + xi * 11 + 3) [.int .u64 seq, .int .u64 ver, .int .i64 index, .int .i64 count, .complex .f64 re im, .bool gone, .string key, .string value]) := Lib.hid (fun i v hv => by
        have := rx (i + 3) v (by simpa [Fnd.cells] using hv)
        rw [show o + xi * 11 + (i + 3) = o + xi * 11 + 3 + i by omega] at this
        exact this)
      have N := Lib.hid (fun w => next_calls (k : Int) (len : Int) w (by omega) (by omega) (by omega) (by omega))
      rw [hmod] at N
      clear hx hy hxi hyi hri hyre hyim hf rx ex ey hxl hyl hkM hrM hbel hmod
      have hwr := HBL.out.size
      have HBA : Hid (Below w.heap.size w (wr.alloc (.cells #[.int .u64 seq, .int .u64 ver, .int .i64 index, .int .i64 count, .complex .f64 re im, .bool gone, .string key, .string value] 33))) := Lib.hid ((keeps HB2.out HBL.out).alloc (by omega) _)
      have HCY := Lib.hid cyr
      have HCR := Lib.hid cgr
      clear cyr cgr
      by_cases hcnt : count = len
      · by_cases hidx : index = k
        · have e1 : (count != (len : Int)) = false := by simp [hcnt]
          have e2 : (index != (k : Int)) = false := by simp [hidx]
          subst hcnt hidx
          clear e1 e2
          have d1 : ((len : Int) != (len : Int)) = false := by simp
          have d2 : ((k : Int) != (k : Int)) = false := by simp
          go_wp2_with ((with_reducible refine pick (some 23) ?_); refine wpList_load_mid rfl 33 _ rfl b (o + xi * 11 + 3) rfl [.int .u64 seq, .int .u64 ver, .int .i64 k, .int .i64 len, .complex .f64 re im, .bool gone, .string key, .string value] _ HRX.out Try.underlying33 rfl info_item ?_)
          obtain ⟨W3, hW3⟩ : ∃ W3, wr.alloc (.cells #[.int .u64 seq, .int .u64 ver, .int .i64 k, .int .i64 len, .complex .f64 re im, .bool gone, .string key, .string value] 33) = W3 := ⟨_, rfl⟩
          have hA : Blk W3 wr.heap.size #[.int .u64 seq, .int .u64 ver, .int .i64 k, .int .i64 len, .complex .f64 re im, .bool gone, .string key, .string value] 33 := by rw [← hW3]; exact Blk.new_ _ _ _
          have hWB : Below wr.heap.size wr W3 := by rw [← hW3]; exact (Below.refl _ _).alloc (Nat.le_refl _) _
          have HBR := Lib.hid (keeps HBL.out hWB)
          rw [hW3] at HBA ⊢
          have a4 := hA.cell 4
          have b1 := (hWB.cell (p := ⟨w.heap.size, 0, none⟩) (by show w.heap.size < wr.heap.size; omega)).trans cbx
          have b2 := (hWB.cell (p := ⟨g, ri, none⟩) (by show g < wr.heap.size; omega)).trans HCR.out
          have b3 := (hWB.cell (p := ⟨b, o + yi * 11 + 0, none⟩) hbr).trans HCY.out
          have b4 : W3.cell? ⟨b, o + yi * 11, none⟩ = some (.complex .f64 yre yim) := b3
          have hri : (ri : Int) < len := by omega
          have hyi : (yi : Int) < n := by omega
          clear hW3 hA hWB cbx cgk d1 d2 b3
          cases hq : ceq re im yre yim with
          | true =>
            have hne := fun w => neq_place w hq
            have HK : Hid (okAt L M' k) := Lib.hid (HOKE.out.2 (by simp [hq]))
            clear hq
            go_quiet ((go_at_call 21; exact Calls.quiet_of_same ((N.out _).mono fun _ _ h => ⟨h.1, h.2.symm⟩)))
            go_wp2_with fail
            go_roundw
            case rel => exact ⟨k + 1, by omega, by go_num, below_drewN (HBR.out) _, Lib.hid (fun j hj => by
              rcases Nat.lt_or_ge j k with h | h
              · exact HOK.out j h
              · obtain rfl : j = k := by omega
                exact HK.out)⟩
            case measure => simp [intOf]; omega
          | false =>
            have hne := fun w => neq_place w hq
            have HK : Hid (¬ okAt L M' k) := Lib.hid (fun h => by
              have := (HOKE.out.1 h).2.2
              rw [hq] at this
              cases this)
            clear hq
            go_quiet ((go_at_call 21; exact Calls.quiet_of_same ((N.out _).mono fun _ _ h => ⟨h.1, h.2.symm⟩)))
            go_wp2_with fail
            go_ret
            exact WholeE.no HP.out HR.out (by rw [HL.out]; exact hlt) HK.out (below_drewN HBA.out _)
        · have e1 : (count != (len : Int)) = false := by simp [hcnt]
          have e2 : (index != (k : Int)) = true := by simp [hidx]
          have HK : Hid (¬ okAt L M' k) := Lib.hid (fun h => hidx (HOKE.out.1 h).2.1)
          clear hcnt hidx
          go_wp2_with ((with_reducible refine pick (some 23) ?_); refine wpList_load_mid rfl 33 _ rfl b (o + xi * 11 + 3) rfl [.int .u64 seq, .int .u64 ver, .int .i64 index, .int .i64 count, .complex .f64 re im, .bool gone, .string key, .string value] _ HRX.out Try.underlying33 rfl info_item ?_)
          go_ret
          exact WholeE.no HP.out HR.out (by rw [HL.out]; exact hlt) HK.out HBA.out
      · have e1 : (count != (len : Int)) = true := by simp [hcnt]
        have HK : Hid (¬ okAt L M' k) := Lib.hid (fun h => hcnt (HOKE.out.1 h).1)
        clear hcnt
        go_wp2_with ((with_reducible refine pick (some 23) ?_); refine wpList_load_mid rfl 33 _ rfl b (o + xi * 11 + 3) rfl [.int .u64 seq, .int .u64 ver, .int .i64 index, .int .i64 count, .complex .f64 re im, .bool gone, .string key, .string value] _ HRX.out Try.underlying33 rfl info_item ?_)
        go_ret
        exact WholeE.no HP.out HR.out (by rw [HL.out]; exact hlt) HK.out HBA.out
    · obtain rfl : k = len := by omega
      have HBQ := Lib.hid (keeps HB2.out HBL.out)
      clear hbel
      go_wp2_with fail
      go_ret
      exact WholeE.yes HP.out HR.out (by rw [HL.out]; exact HOK.out) HBQ.out
end
end Go.Proofs.Ythmcakaboebagaa.RingA
