/- Layer 14's law ViewOrder, over what the project's view is asked. -/
import Derived.Test.YtdnenikplajmaaaViewU
namespace Go.Proofs.Ytdnenikplajmaaa.ViewO
set_option linter.unusedVariables false
set_option linter.unusedSimpArgs false
open Go.RowKit
open Go.Proofs.Ytdnenikplajmaaa.Byte Go.Proofs.Ytdnenikplajmaaa.KeysM Go.Proofs.Ytdnenikplajmaaa.TreeM Go.Proofs.Ytdnenikplajmaaa.ViewM Go.Proofs.Ytdnenikplajmaaa.Own Go.Proofs.Ytdnenikplajmaaa.Rw Go.Proofs.Ytdnenikplajmaaa.Lst Go.Proofs.Ytdnenikplajmaaa.Chg Go.Proofs.Ytdnenikplajmaaa.TreeR Go.Proofs.Ytdnenikplajmaaa.TreeS Go.Proofs.Ytdnenikplajmaaa.TreeL Go.Proofs.Ytdnenikplajmaaa.TreeG Go.Proofs.Ytdnenikplajmaaa.TreeH Go.Proofs.Ytdnenikplajmaaa.ViewR Go.Proofs.Ytdnenikplajmaaa.ViewG Go.Proofs.Ytdnenikplajmaaa.ViewL Go.Proofs.Ytdnenikplajmaaa.ViewB Go.Proofs.Ytdnenikplajmaaa.ViewD Go.Proofs.Ytdnenikplajmaaa.ViewP Go.Proofs.Ytdnenikplajmaaa.ViewU
variable {Rep : World → Value → Vs → (Nat → Prop) → (Nat → Prop) → Prop}

/-- Texts, as they lie in a row. -/
def txE : Enc ByteArray := ⟨fun s => [.string s], 1, fun _ => rfl, fun x u hu => by
  rw [List.mem_singleton] at hu
  subst hu
  rfl, by decide⟩
theorem tx_cell {w : World} {b o k : Nat} {x : ByteArray} (h : w.rangeAt b (o + k * txE.size) (txE.cells x)) : w.cell? ⟨b, o + k, none⟩ = some (.string x) := by
  have := h 0 _ rfl
  rw [show txE.size = 1 from rfl, Nat.mul_one] at this
  exact this
abbrev ex (s : ByteArray) : ByteArray := s ++ ⟨#[33]⟩
def pr (s : ByteArray) : Pr := ⟨s, ex s, false⟩
theorem ex_size (s : ByteArray) : (ex s).size = s.size + 1 := by
  rw [ByteArray.size_append]
  rfl
/-- Just these keys are written, each with itself and one more byte. -/
def MemW (f : Nat → ByteArray) (i : Nat) (W : List Pr) : Prop := ∀ p, p ∈ W ↔ ∃ j, j < i ∧ p = pr (f j)
theorem MemW.zero (f : Nat → ByteArray) : MemW f 0 [] := fun p => by simp
theorem MemW.succ {f : Nat → ByteArray} {i : Nat} {W : List Pr} (h : MemW f i W) : MemW f (i + 1) (putP (pr (f i)) W) := by
  intro p
  constructor
  · intro hp
    rcases mem_putP hp with rfl | ⟨hp, _⟩
    · exact ⟨i, by omega, rfl⟩
    · obtain ⟨j, hj, e⟩ := (h p).1 hp
      exact ⟨j, by omega, e⟩
  · rintro ⟨j, hj, rfl⟩
    by_cases he : f j = f i
    · rw [he]
      exact putP_new _ _
    · have hji : j < i := by
        rcases Nat.lt_or_ge j i with h1 | h1
        · exact h1
        · have : j = i := by omega
          subst this
          exact absurd rfl he
      exact putP_mem ((h _).2 ⟨j, hji, rfl⟩) he
theorem MemW.both {f : Nat → ByteArray} {n : Nat} {W M : List Pr} (h1 : MemW f n W) (h2 : MemW (fun j => f (n - 1 - j)) n M) (r1 : Rise W) (r2 : Rise M) : W = M := by
  refine rise_ext r1 r2 fun p => ?_
  rw [h1 p, h2 p]
  constructor
  · rintro ⟨j, hj, rfl⟩
    exact ⟨n - 1 - j, by omega, by dsimp only; rw [show n - 1 - (n - 1 - j) = j by omega]⟩
  · rintro ⟨j, hj, rfl⟩
    exact ⟨n - 1 - j, by omega, rfl⟩
theorem not_full {W : List Pr} {p : Pr} (h : W.length < 48) : fullW W p = false := by
  unfold fullW
  rw [decide_eq_false (by omega), Bool.and_false]
theorem set_pr {K W : List Pr} {v : Value} {S D : Nat → Prop} {s : ByteArray} {w : World} (hV : Vws Rep) (hl : W.length < 48) (hr : Rep w v ⟨K, W, [], []⟩ S D) (hK : K.length ≤ 60) (h1 : s.size ≤ 140737488351232) :
    Calls Try.prog 16 #[v, .string s, .string (ex s)] w fun e w' => ∃ S' D', e = .returned (.bool true) ∧ Rep w' v ⟨K, putP (pr s) W, [], []⟩ S' D' ∧ Stp S D S' D' w w' :=
  set_to hV (by rw [not_full hl]; rfl) (write_put (s := ⟨K, W, [], []⟩) (p := pr s) (not_full hl) rfl) hr hK (by omega) (by rw [ex_size]; omega)
theorem range_pr {K W : List Pr} {v : Value} {S D : Nat → Prop} {w : World} (hV : Vws Rep) (hr : Rep w v ⟨K, W, [], []⟩ S D) (hK : K.length ≤ 60) :
    Calls Try.prog 22 #[v, .string ⟨#[]⟩, .string ⟨#[255, 255]⟩] w fun e w' => ∃ (r : Sh) (S' D' : Nat → Prop), e = .returned (.slice r.a r.n r.c) ∧ Sl prE w' r.a r.n ((⟨K, W, [], []⟩ : Vs).rangeOf ⟨#[]⟩ ⟨#[255, 255]⟩) ∧ (0 < r.n → NewA w r) ∧ Rep w' v ((⟨K, W, [], []⟩ : Vs).ranged ⟨#[]⟩ ⟨#[255, 255]⟩) S' D' ∧ Stp S D S' D' w w' :=
  hV.range _ _ hr (lim_w hK) (by decide) (by decide)
theorem writes_pr {K W : List Pr} {v : Value} {S D : Nat → Prop} {w : World} (hV : Vws Rep) (hr : Rep w v ⟨K, W, [], []⟩ S D) (hK : K.length ≤ 60) :
    Calls Try.prog 17 #[v] w fun e w' => ∃ r : Sh, e = .returned (.slice r.a r.n r.c) ∧ Sl prE w' r.a r.n W ∧ Below w.heap.size w w' := hV.writes hr (lim_w hK)
theorem range_few {K W : List Pr} (hK : K.length ≤ 60) (hW : W.length ≤ 48) : ((⟨K, W, [], []⟩ : Vs).rangeOf ⟨#[]⟩ ⟨#[255, 255]⟩).length ≤ 1000 := by
  unfold Vs.rangeOf
  split
  · have h1 : (rangeL ⟨#[]⟩ ⟨#[255, 255]⟩ (shownL K W)).length ≤ (shownL K W).length := List.length_filter_le _ _
    have h2 := shown_len K W
    show (rangeL _ _ (shownL K W)).length ≤ _
    omega
  · simp
/-- Two views side by side over one base, their blocks apart. -/
structure Two (Rep : World → Value → Vs → (Nat → Prop) → (Nat → Prop) → Prop) (B : Nat) (K W M : List Pr) (u v : Value) (S D S2 D2 : Nat → Prop) (w : World) : Prop where
  one : Rep w u ⟨K, W, [], []⟩ S D
  two : Rep w v ⟨K, M, [], []⟩ S2 D2
  new : ∀ q, S q → B ≤ q
  new2 : ∀ q, S2 q → B ≤ q
  a12 : ∀ q, S q → ¬ D2 q
  a21 : ∀ q, S2 q → ¬ D q
theorem Two.below (hS : Stays Rep) {B : Nat} {K W M : List Pr} {u v : Value} {S D S2 D2 : Nat → Prop} {w w' : World} (h : Two Rep B K W M u v S D S2 D2 w) (hb : Below w.heap.size w w') : Two Rep B K W M u v S D S2 D2 w' :=
  ⟨hS.below h.one hb, hS.below h.two hb, h.new, h.new2, h.a12, h.a21⟩
theorem Two.first (hS : Stays Rep) {B : Nat} {K W W' M : List Pr} {u v : Value} {S D S2 D2 S' D' : Nat → Prop} {w w' : World} (h : Two Rep B K W M u v S D S2 D2 w) (hB : B ≤ w.heap.size) (hr : Rep w' u ⟨K, W', [], []⟩ S' D') (hst : Stp S D S' D' w w') : Two Rep B K W' M u v S' D' S2 D2 w' := by
  have hlt2 := hS.lt h.two
  refine ⟨hr, hS.stay h.two hst.chg h.a12 hst.kept, new_own h.new hB hst.own, h.new2, fun q hq hd => ?_, fun q hq hd => ?_⟩
  · rcases hst.own q hq with h1 | h1
    · exact h.a12 q h1 hd
    · have := hlt2 q hd
      omega
  · rcases hst.dep q hd with h1 | h1
    · exact h.a21 q hq h1
    · have := hlt2 q (hS.sub h.two q hq)
      omega
theorem Two.swap {B : Nat} {K W M : List Pr} {u v : Value} {S D S2 D2 : Nat → Prop} {w : World} (h : Two Rep B K W M u v S D S2 D2 w) : Two Rep B K M W v u S2 D2 S D w := ⟨h.two, h.one, h.new2, h.new, h.a21, h.a12⟩
theorem Two.second (hS : Stays Rep) {B : Nat} {K W M M' : List Pr} {u v : Value} {S D S2 D2 S' D' : Nat → Prop} {w w' : World} (h : Two Rep B K W M u v S D S2 D2 w) (hB : B ≤ w.heap.size) (hr : Rep w' v ⟨K, M', [], []⟩ S' D') (hst : Stp S2 D2 S' D' w w') : Two Rep B K W M' u v S D S' D' w' :=
  (Two.first hS h.swap hB hr hst).swap
/-- A row stays where a method of a view writes that it does not lie in. -/
theorem row_stays {S : Nat → Prop} {w w' : World} {r : Sh} {L : List Pr} (h : Sl prE w r.a r.n L) (hc : Chg S w w') (ho : Off S r) : Sl prE w' r.a r.n L := by
  by_cases hn : 0 < r.n
  · exact Sl.chg h hc (ho hn)
  · have h0 : r.n = 0 := by omega
    have hl : L = [] := List.eq_nil_of_length_eq_zero (by rw [h.1, h0])
    rw [hl, h0]
    exact Sl.nil_ _ _ _
theorem off_made {S : Nat → Prop} {w : World} {r : Sh} (hn : 0 < r.n → NewA w r) (hS : ∀ q, S q → q < w.heap.size) : Off S r := fun h b o e hb => by
  have h1 := hn h b o e
  have h2 := hS b hb
  omega
theorem same_rows {A B : Option Addr} {n c m d : Nat} {L M : List Pr} {w : World} (hl : Sl prE w A n L) (hm : Sl prE w B m M) (he : L = M) (hb : L.length ≤ 1000) :
    Calls Try.prog 25 #[.slice A n c, .slice B m d] w fun e w' => e = .returned (.bool true) ∧ Below w.heap.size w w' :=
  refsame_calls A B n c m d L M w hl hm (by rw [← hl.1]; omega) (by rw [← hm.1, ← he]; omega) he
set_option maxRecDepth 100000 in
set_option maxHeartbeats 8000000 in
theorem order_law (hV : Vws Rep) (A A2 : Option Addr) (n c n2 c2 : Nat) (L : List (ByteArray × ByteArray)) (M : List ByteArray) (w : World) (hl : Sl rgE w A n L) (hm : Sl txE w A2 n2 M) (hn : n ≤ c) (hc : c ≤ maxLen) (hn2 : n2 ≤ c2) (hc2 : c2 ≤ maxLen) (hf : ∀ p ∈ L, fitTwo p) (hf2 : ∀ s ∈ M, s.size ≤ 140737488351232) :
    Calls Try.prog 7 #[.slice A n c, .slice A2 n2 c2] w fun e w' => e = .returned (.bool true) ∧ Below w.heap.size w w' := by
  have HV := Lib.hid hV
  have HB0 := Lib.hid (base_calls A n c L w hl hn hc hf)
  have HM := Lib.hid hm
  have HF2 := Lib.hid hf2
  unfold maxLen at hc2
  clear hV hl hm hf hf2 hn hc
  by_cases h48 : 48 < n2
  · have d : decide ((48 : Int) < (n2 : Int)) = true := decide_eq_true (by omega)
    go_enter Try.func7, Try.ntmps7
    go_wp2_with (go_at_call 12; refine (fixed_is HV.out _).mono ?_; rintro e w7 ⟨rfl, hb7⟩; have HB7 := Lib.hid hb7; clear hb7)
    go_ret
    exact ⟨rfl, HB7.out⟩
  · have d : decide ((48 : Int) < (n2 : Int)) = false := decide_eq_false (by omega)
    go_enter Try.func7, Try.ntmps7
    go_wp2_with fail
    refine HB0.out.mono ?_
    rintro e w1 ⟨t, h, r, K, rfl, ht, hs, hkl, hb1⟩
    have HB1 := Lib.hid hb1
    have HT := Lib.hid ht
    have HKL := Lib.hid hkl
    clear ht hs hb1 hkl
    go_wp2_with fail
    refine (HV.out.new HT.out (by have := HKL.out; omega)).mono ?_
    rintro e w2 ⟨u, S1, D1, rfl, hr, hs2, _, hb2⟩
    have HR2 := Lib.hid hr
    have HS2 : Hid (∀ q, S1 q → w.heap.size ≤ q) := Lib.hid (fun q hq => Nat.le_trans HB1.out.size (hs2 q hq))
    have HB2 := Lib.hid (keeps HB1.out hb2)
    have HT2 := Lib.hid (tbelow HT.out hb2)
    clear hr hs2 hb2 HT
    go_wp2_with fail
    refine (HV.out.new HT2.out (by have := HKL.out; omega)).mono ?_
    rintro e w3 ⟨v, S2, D2, rfl, hr3, hs3, hd3, hb3⟩
    have HTW : Hid (Two Rep w.heap.size K [] [] u v S1 D1 S2 D2 w3) := Lib.hid ⟨HV.out.stays.below HR2.out hb3, hr3, HS2.out, fun q hq => Nat.le_trans HB2.out.size (hs3 q hq), fun q hq hd => (by
      have h1 := HV.out.stays.lt HR2.out q (HV.out.stays.sub HR2.out q hq)
      have h2 := hd3 q hd
      omega), fun q hq hd => (by
      have h1 := HV.out.stays.lt HR2.out q hd
      have h2 := hs3 q hq
      omega)⟩
    have HB3 := Lib.hid (keeps HB2.out hb3)
    obtain ⟨f, hf⟩ : ∃ f : Nat → ByteArray, (fun j => M.getD j ⟨#[]⟩) = f := ⟨_, rfl⟩
    have HFF := Lib.hid hf
    clear hr3 hs3 hd3 hb3 hf HR2 HS2
    go_wp2
    go_loopw [26] (fun i wr => ∃ (j : Nat) (W W2 : List Pr) (S D S2 D2 : Nat → Prop), j ≤ n2 ∧ i = .int .i64 j ∧ Hid (Two Rep w.heap.size K W W2 u v S D S2 D2 wr) ∧ Hid (MemW f j W) ∧ Hid (MemW (fun j => f (n2 - 1 - j)) j W2) ∧ W.length ≤ j ∧ W2.length ≤ j ∧ Below w.heap.size w wr) (fun i _ => n2 - (intOf i).toNat)
    case atStart => exact ⟨0, [], [], S1, D1, S2, D2, Nat.zero_le _, rfl, HTW, Lib.hid (MemW.zero _), Lib.hid (MemW.zero _), Nat.le_refl _, Nat.le_refl _, HB3.out⟩
    case round =>
      obtain ⟨j, W, W2, S, D, S2, D2, hj, rfl, HTW, HM1, HM2, hl1, hl2, hbel⟩ := hrel
      have HBL := Lib.hid hbel
      by_cases hlt : j < n2
      · obtain ⟨x, g, o, hx, rfl, hg, hc1⟩ := (HM.out.below hbel).get j hlt
        obtain ⟨q, hq⟩ : ∃ q, n2 - 1 - j = q := ⟨_, rfl⟩
        have hqn : q < n2 := by omega
        obtain ⟨y, hy⟩ : ∃ y, M[q]? = some y := ⟨_, List.getElem?_eq_getElem (by rw [HM.out.1]; exact hqn)⟩
        have hfx : f j = x := by rw [← HFF.out]; simp [List.getD_eq_getElem?_getD, hx]
        have hfy : f (n2 - 1 - j) = y := by rw [hq, ← HFF.out]; simp [List.getD_eq_getElem?_getD, hy]
        have c0 := tx_cell hc1
        have hxs := HF2.out x (List.mem_of_getElem? hx)
        have hys := HF2.out y (List.mem_of_getElem? hy)
        have hxi : (x.size : Int) ≤ 140737488351232 := by omega
        have hyi : (y.size : Int) ≤ 140737488351232 := by omega
        have HXS := Lib.hid hxs
        have HYS := Lib.hid hys
        have HY := Lib.hid hy
        have HW1 : Hid (MemW f (j + 1) (putP (pr x) W)) := Lib.hid (by have := HM1.out.succ; rw [hfx] at this; exact this)
        have HW2 : Hid (MemW (fun j => f (n2 - 1 - j)) (j + 1) (putP (pr y) W2)) := Lib.hid (by have := HM2.out.succ; rw [hfy] at this; exact this)
        have hqi : ((n2 : Int) - 1 - (j : Int)) = (q : Int) := by omega
        have hq0 : (0 : Int) ≤ (n2 : Int) - 1 := by omega
        have HL1 : Hid (W.length < 48) := Lib.hid (by omega)
        have HL2 : Hid (W2.length < 48) := Lib.hid (by omega)
        have HL3 : Hid ((putP (pr x) W).length ≤ j + 1) := Lib.hid (Nat.le_trans (putP_len _ _) (by omega))
        have HL4 : Hid ((putP (pr y) W2).length ≤ j + 1) := Lib.hid (Nat.le_trans (putP_len _ _) (by omega))
        clear hc1 hx hy hfx hfy hq hbel hl1 hl2 hxs hys
        by_cases hbig : 100 < x.size
        · have d : decide ((100 : Int) < (x.size : Int)) = true := decide_eq_true (by omega)
          go_wp2_with (go_at_call 12; refine (fixed_is HV.out _).mono ?_; rintro e w7 ⟨rfl, hb7⟩; have HB7 := Lib.hid (keeps HBL.out hb7); clear hb7)
          go_ret
          exact ⟨rfl, HB7.out⟩
        · have d : decide ((100 : Int) < (x.size : Int)) = false := decide_eq_false (by omega)
          go_wp2_with (first
            | (go_at_call 16; (with_reducible refine (set_pr (s := x) HV.out HL1.out HTW.out.one HKL.out HXS.out).mono ?_); rintro e w5 ⟨S', D', rfl, hr5, hst⟩; have HT5 := Lib.hid (Two.first HV.out.stays HTW.out HBL.out.size hr5 hst); have HB5 := Lib.hid (below_chg HBL.out hst.chg HTW.out.new (Nat.le_refl _)); have c1 := tx_cell ((HM.out.below HB5.out).at_ q y HY.out).2; clear hr5 hst)
            | (go_at_call 16; (with_reducible refine (set_pr (s := y) HV.out HL2.out HT5.out.two HKL.out HYS.out).mono ?_); rintro e w6 ⟨S6, D6, rfl, hr6, hst⟩; have HT6 := Lib.hid (Two.second HV.out.stays HT5.out HB5.out.size hr6 hst); have HB6 := Lib.hid (below_chg HB5.out hst.chg HT5.out.new2 (Nat.le_refl _)); clear hr6 hst))
          go_roundw
          case rel => exact ⟨j + 1, _, _, S', D', S6, D6, by omega, by go_num, HT6, HW1, HW2, HL3.out, HL4.out, HB6.out⟩
          case measure => simp [intOf]; omega
      · obtain rfl : j = n2 := by omega
        have hWW : W = W2 := HM1.out.both HM2.out (HV.out.stays.ok HTW.out.one).wr (HV.out.stays.ok HTW.out.two).wr
        subst hWW
        have HL := Lib.hid (show W.length ≤ 48 by omega)
        have HRF := Lib.hid (range_few (K := K) (W := W) HKL.out (show W.length ≤ 48 by omega))
        clear hbel hl1 hl2
        go_wp2_with (first
          | (go_at_call 12; refine (fixed_is HV.out _).mono ?_; rintro e w7 ⟨rfl, hb7⟩; have HB7 := Lib.hid (keeps HBL.out hb7); have HT7 := Lib.hid (HTW.out.below HV.out.stays hb7); clear hb7)
          | (go_at_call 17; (with_reducible refine (writes_pr HV.out HT7.out.one HKL.out).mono ?_); rintro e w8 ⟨ra, rfl, hs8, hb8⟩; have HS8 := Lib.hid hs8; have HB8 := Lib.hid (keeps HB7.out hb8); have HT8 := Lib.hid (HT7.out.below HV.out.stays hb8); clear hs8 hb8)
          | (go_at_call 17; (with_reducible refine (writes_pr HV.out HT8.out.two HKL.out).mono ?_); rintro e w9 ⟨rb, rfl, hs9, hb9⟩; have HS9 := Lib.hid hs9; have HS8b := Lib.hid (HS8.out.below hb9); have HB9 := Lib.hid (keeps HB8.out hb9); have HT9 := Lib.hid (HT8.out.below HV.out.stays hb9); clear hs9 hb9)
          | (go_at_call 25; (with_reducible refine (same_rows HS8b.out HS9.out rfl (by have := HL.out; omega)).mono ?_); rintro e w10 ⟨rfl, hb10⟩; have HB10 := Lib.hid (keeps HB9.out hb10); have HT10 := Lib.hid (HT9.out.below HV.out.stays hb10); clear hb10)
          | (go_at_call 22; (with_reducible refine (range_pr HV.out HT10.out.one HKL.out).mono ?_); rintro e w11 ⟨rc, S11, D11, rfl, hs11, hn11, hr11, hst⟩; have HS11 := Lib.hid hs11; have HO11 := Lib.hid (off_made (S := S2) hn11 (fun q hq => HV.out.stays.lt HT10.out.two q (HV.out.stays.sub HT10.out.two q hq))); have HV11 := Lib.hid (HV.out.stays.stay HT10.out.two hst.chg HT10.out.a12 hst.kept); have HB11 := Lib.hid (below_chg HB10.out hst.chg HT10.out.new (Nat.le_refl _)); clear hs11 hn11 hr11 hst)
          | (go_at_call 22; (with_reducible refine (range_pr HV.out HV11.out HKL.out).mono ?_); rintro e w12 ⟨rd, S12, D12, rfl, hs12, hn12, hr12, hst⟩; have HS12 := Lib.hid hs12; have HS11b := Lib.hid (row_stays HS11.out hst.chg HO11.out); have HB12 := Lib.hid (below_chg HB11.out hst.chg HT10.out.new2 (Nat.le_refl _)); clear hs12 hn12 hr12 hst)
          | (go_at_call 25; (with_reducible refine (same_rows HS11b.out HS12.out rfl HRF.out).mono ?_); rintro e w13 ⟨rfl, hb13⟩; have HB13 := Lib.hid (keeps HB12.out hb13); clear hb13))
        go_ret
        exact ⟨rfl, HB13.out⟩
end Go.Proofs.Ytdnenikplajmaaa.ViewO
