/- Layer 14's law ViewFull, over what the project's view is asked. -/
import Derived.Test.YtdnenikplajmaaaViewP
import Derived.Lib.MinMax
import Derived.IntWalk
namespace Go.Proofs.Ytdnenikplajmaaa.ViewU
set_option linter.unusedVariables false
set_option linter.unusedSimpArgs false
open Go.RowKit
open Go.Proofs.Ytdnenikplajmaaa.Byte Go.Proofs.Ytdnenikplajmaaa.KeysM Go.Proofs.Ytdnenikplajmaaa.TreeM Go.Proofs.Ytdnenikplajmaaa.ViewM Go.Proofs.Ytdnenikplajmaaa.Own Go.Proofs.Ytdnenikplajmaaa.Rw Go.Proofs.Ytdnenikplajmaaa.Lst Go.Proofs.Ytdnenikplajmaaa.Chg Go.Proofs.Ytdnenikplajmaaa.TreeR Go.Proofs.Ytdnenikplajmaaa.TreeS Go.Proofs.Ytdnenikplajmaaa.TreeL Go.Proofs.Ytdnenikplajmaaa.TreeG Go.Proofs.Ytdnenikplajmaaa.TreeH Go.Proofs.Ytdnenikplajmaaa.ViewR Go.Proofs.Ytdnenikplajmaaa.ViewG Go.Proofs.Ytdnenikplajmaaa.ViewL Go.Proofs.Ytdnenikplajmaaa.ViewB Go.Proofs.Ytdnenikplajmaaa.ViewD Go.Proofs.Ytdnenikplajmaaa.ViewP
variable {Rep : World → Value → Vs → (Nat → Prop) → (Nat → Prop) → Prop}

def kU (i : Nat) : ByteArray := ⟨#[107, 101, 121, UInt8.ofNat i]⟩
def fU (i : Nat) : Pr := ⟨kU i, ⟨#[120]⟩, false⟩
def wU (m : Nat) : List Pr := (List.range m).map fU
theorem kU_le (i : Nat) : (kU i).size ≤ 200000000000000 := by
  show 4 ≤ 200000000000000
  decide
theorem key_is : ∀ i : Nat, i < 256 → (⟨#[107, 101, 121]⟩ : ByteArray) ++ str [(i : Int)] = kU i := by decide +kernel
theorem step_put : ∀ m : Nat, m < 48 → putP (fU m) (wU m) = wU (m + 1) ∧ fullW (wU m) (fU m) = false := by decide +kernel
theorem step_full : ∀ m : Nat, m < 256 → 48 ≤ m → fullW (wU 48) (fU m) = true := by decide +kernel
theorem len_wU (m : Nat) : (wU m).length = m := by simp [wU]
def pA : Pr := ⟨⟨#[107, 101, 121, 0]⟩, ⟨#[121]⟩, false⟩
def pB : Pr := ⟨⟨#[107, 101, 121, 1]⟩, ⟨#[]⟩, true⟩
def pC : Pr := ⟨⟨#[111, 110, 101, 32, 109, 111, 114, 101]⟩, ⟨#[122]⟩, false⟩
def wA : List Pr := putP pA (wU 48)
theorem f_A : fullW (wU 48) pA = false := by decide +kernel
theorem f_B : fullW wA pB = false := by decide +kernel
theorem f_C : fullW (putP pB wA) pC = true ∧ fullW (cutL pB.key wA) pC = false := by decide +kernel
theorem write_put {s : Vs} {p : Pr} (hf : fullW s.wr p = false) (hg : p.gone = false) : s.write p = { s with wr := putP p s.wr } := by
  unfold Vs.write writeW
  rw [if_neg (by rw [hf]; decide), hg]
  rfl
theorem write_gone {s : Vs} {p : Pr} (hf : fullW s.wr p = false) (hg : p.gone = true) : s.write p = { s with wr := if (getL p.key s.base).isNone then cutL p.key s.wr else putP p s.wr } := by
  unfold Vs.write writeW
  rw [if_neg (by rw [hf]; decide), hg, Bool.true_and]
theorem write_no {s : Vs} {p : Pr} (hf : fullW s.wr p = true) : s.write p = s := by
  unfold Vs.write
  rw [if_pos hf]
theorem lim_w {K W : List Pr} (hK : K.length ≤ 60) : Lim ⟨K, W, [], []⟩ := ⟨by show K.length ≤ _; omega, by simp, by simp⟩
theorem got_is {o : Option Pr} : ∃ x : ByteArray, GotV o = .tuple #[.string x, .bool o.isSome] := by
  cases o with
  | none => exact ⟨_, rfl⟩
  | some p => exact ⟨_, rfl⟩
theorem set_to {K W W' : List Pr} {v : Value} {S D : Nat → Prop} {k x : ByteArray} {ok : Bool} {w : World} (hV : Vws Rep) (hw : (!fullW W ⟨k, x, false⟩) = ok) (hW : (⟨K, W, [], []⟩ : Vs).write ⟨k, x, false⟩ = ⟨K, W', [], []⟩) (hr : Rep w v ⟨K, W, [], []⟩ S D) (hK : K.length ≤ 60) (h1 : k.size ≤ 200000000000000) (h2 : x.size ≤ 200000000000000) :
    Calls Try.prog 16 #[v, .string k, .string x] w fun e w' => ∃ S' D', e = .returned (.bool ok) ∧ Rep w' v ⟨K, W', [], []⟩ S' D' ∧ Stp S D S' D' w w' := by
  have h := ViewD.set_is hV.set hw hr (lim_w hK) h1 h2
  rw [hW] at h
  exact h
theorem cut_to {K W W' : List Pr} {v : Value} {S D : Nat → Prop} {k : ByteArray} {ok : Bool} {w : World} (hV : Vws Rep) (hw : (!fullW W ⟨k, ⟨#[]⟩, true⟩) = ok) (hW : (⟨K, W, [], []⟩ : Vs).write ⟨k, ⟨#[]⟩, true⟩ = ⟨K, W', [], []⟩) (hr : Rep w v ⟨K, W, [], []⟩ S D) (hK : K.length ≤ 60) (h1 : k.size ≤ 200000000000000) :
    Calls Try.prog 19 #[v, .string k] w fun e w' => ∃ S' D', e = .returned (.bool ok) ∧ Rep w' v ⟨K, W', [], []⟩ S' D' ∧ Stp S D S' D' w w' := by
  have h := ViewD.cut_is hV.cut hw hr (lim_w hK) h1
  rw [hW] at h
  exact h
theorem get_to {K : List Pr} {t : Value} {h : Nat} {k x : ByteArray} {y : Bool} {w : World} (hr : TRep w t K h) (hK : K.length ≤ 60) (hg : GotV (getL k K) = .tuple #[.string x, .bool y]) : Calls Try.prog 18 #[t, .string k] w fun e w' => e = .returned (.tuple #[.string x, .bool y]) ∧ w = w' := by
  rw [← hg]
  exact tget k hr (by omega)
theorem writes_to {K W : List Pr} {v : Value} {S D : Nat → Prop} {n : Nat} {w : World} (hV : Vws Rep) (hr : Rep w v ⟨K, W, [], []⟩ S D) (hK : K.length ≤ 60) (hn : W.length = n) :
    Calls Try.prog 17 #[v] w fun e w' => ∃ r : Sh, e = .returned (.slice r.a n r.c) ∧ Below w.heap.size w w' := by
  refine (hV.writes hr (lim_w hK)).mono ?_
  rintro e w' ⟨r, rfl, hsl, hb⟩
  have h1 : r.n = n := by rw [← hn]; exact hsl.1.symm
  exact ⟨r, by rw [h1], hb⟩
theorem conv1 {w : World} {j : Nat} {c : Nat} {tt : ByteArray} (hj : j < 256) (ht : str [(j : Int)] = tt) : (convert 45 9 (.slice (some ⟨w.heap.size, 0, none⟩) 1 c)).run Try.prog (w.alloc (.cells #[.int .u8 (j : Int)] 5)) = .ok (.string tt) (w.alloc (.cells #[.int .u8 (j : Int)] 5)) := by
  subst ht
  have h := run_convert_bytes_back (P := Try.prog) (w.alloc (.cells #[.int .u8 (j : Int)] 5)) 45 9 5 ⟨w.heap.size, 0, none⟩ c [UInt8.ofNat j] Try.underlying45 Try.underlying5 Try.underlying9 (fun i hi => by
    obtain rfl : i = 0 := by simpa using hi
    have hh := (Blk.new_ w #[.int .u8 (j : Int)] 5).cell 0
    rw [show (⟨w.heap.size, 0, none⟩ : Addr).add 0 = ⟨w.heap.size, 0, none⟩ from rfl]
    refine hh.trans ?_
    simp
    omega)
  exact h
/-- What a view's own blocks and the world are behind a method. -/
theorem after {w wr w' : World} {S D S' D' : Nat → Prop} (hb : Below w.heap.size w wr) (hS : ∀ q, S q → w.heap.size ≤ q) (hst : Stp S D S' D' wr w') : Below w.heap.size w w' ∧ ∀ q, S' q → w.heap.size ≤ q :=
  ⟨below_chg hb hst.chg hS (Nat.le_refl _), new_own hS hb.size hst.own⟩
set_option maxRecDepth 100000 in
set_option maxHeartbeats 8000000 in
theorem full_law (hV : Vws Rep) (A : Option Addr) (n c : Nat) (L : List (ByteArray × ByteArray)) (bb : Int) (w : World) (hl : Sl rgE w A n L) (hn : n ≤ c) (hc : c ≤ maxLen) (hf : ∀ p ∈ L, fitTwo p) (hb0 : 0 ≤ bb) (hb1 : bb ≤ 255) :
    Calls Try.prog 5 #[.slice A n c, .int .u8 bb] w fun e w' => e = .returned (.bool true) ∧ Below w.heap.size w w' := by
  have HV := Lib.hid hV
  have HB0 := Lib.hid (base_calls A n c L w hl hn hc hf)
  obtain ⟨k, rfl⟩ : ∃ k : Nat, bb = k := ⟨bb.toNat, by omega⟩
  have hk255 : k ≤ 255 := by omega
  have hw64 : IntKind.i64.wrap (k : Int) = k := IntWalk.i64_in _ (by omega)
  clear hV hl hf hn hc hb0 hb1
  go_enter Try.func5, Try.ntmps5
  go_wp2_with fail
  refine HB0.out.mono ?_
  rintro e w1 ⟨t, h, r, K, rfl, ht, hs, hkl, hb1⟩
  have HB1 := Lib.hid hb1
  have HT := Lib.hid ht
  have HKL := Lib.hid hkl
  clear ht hs hb1 hkl
  go_wp2_with fail
  refine (HV.out.new HT.out (by have := HKL.out; omega)).mono ?_
  rintro e w2 ⟨v, S0, D0, rfl, hr, hs2, _, hb2⟩
  have HR2 := Lib.hid hr
  have HS2 : Hid (∀ q, S0 q → w.heap.size ≤ q) := Lib.hid (fun q hq => Nat.le_trans HB1.out.size (hs2 q hq))
  have HB2 := Lib.hid (keeps HB1.out hb2)
  have HT2 := Lib.hid (tbelow HT.out hb2)
  clear hr hs2 hb2 HT
  go_wp2
  go_loopw [24] (fun i wr => ∃ (j : Nat) (S D : Nat → Prop), j ≤ k ∧ i = .int .i64 j ∧ Hid (Rep wr v ⟨K, wU (min j 48), [], []⟩ S D) ∧ Hid (∀ q, S q → w.heap.size ≤ q) ∧ Hid (TRep wr t K h) ∧ Below w.heap.size w wr) (fun i _ => k - (intOf i).toNat)
  case atStart => exact ⟨0, S0, D0, Nat.zero_le _, rfl, HR2, HS2, HT2, HB2.out⟩
  case round =>
    obtain ⟨j, S, D, hj, rfl, HR, HSO, HT, hbel⟩ := hrel
    by_cases hlt : j < k
    · have hj8 : IntKind.u8.wrap (j : Int) = j := by rw [IntKind.wrap_u8]; omega
      have hj9 : IntKind.i64.wrap (j : Int) = j := IntWalk.i64_in _ (by omega)
      obtain ⟨tt, htt⟩ : ∃ tt, str [(j : Int)] = tt := ⟨_, rfl⟩
      have hcv : ∀ c : Nat, (convert 45 9 (.slice (some ⟨wr.heap.size, 0, none⟩) 1 c)).run Try.prog (wr.alloc (.cells #[.int .u8 (j : Int)] 5)) = .ok (.string tt) (wr.alloc (.cells #[.int .u8 (j : Int)] 5)) := fun c => conv1 (by omega) htt
      have hke : (⟨#[107, 101, 121]⟩ : ByteArray) ++ tt = kU j := by rw [← htt]; exact key_is j (by omega)
      have htz : tt.size ≤ 1 := by rw [← htt]; exact Nat.le_refl 1
      have htz2 : (tt.size : Int) ≤ 1 := by omega
      have hba : Below wr.heap.size wr (wr.alloc (.cells #[.int .u8 (j : Int)] 5)) := (Below.refl _ _).alloc (Nat.le_refl _) _
      have HBX := Lib.hid (keeps hbel hba)
      have HRX := Lib.hid (HV.out.stays.below HR.out hba)
      have HTX := Lib.hid (tbelow HT.out hba)
      have HHT := Lib.hid htt
      clear hbel hba htt
      rcases (show j < 48 ∨ 48 ≤ j by omega) with q | q
      · have d1 : decide ((j : Int) < 48) = true := decide_eq_true (by omega)
        have e1 : min j 48 = j := by omega
        have e2 : min (j + 1) 48 = j + 1 := by omega
        have HW1 : Hid ((!fullW (wU (min j 48)) ⟨kU j, ⟨#[120]⟩, false⟩) = true) := Lib.hid (by rw [e1]; show (!fullW (wU j) (fU j)) = true; rw [(step_put j q).2]; rfl)
        have HW2 : Hid ((⟨K, wU (min j 48), [], []⟩ : Vs).write ⟨kU j, ⟨#[120]⟩, false⟩ = ⟨K, wU (min (j + 1) 48), [], []⟩) := Lib.hid (by rw [e1, e2, write_put (p := ⟨kU j, ⟨#[120]⟩, false⟩) (step_put j q).2 rfl]; exact congrArg (fun W => (⟨K, W, [], []⟩ : Vs)) (step_put j q).1)
        clear e1 e2
        go_wp2_with (go_at_call 16; refine (set_to HV.out HW1.out HW2.out HRX.out HKL.out (kU_le j) (by decide)).mono ?_; rintro e w5 ⟨S', D', rfl, hr5, hst⟩; obtain ⟨ha, hb⟩ := after HBX.out HSO.out hst; have HR5 := Lib.hid hr5; have HB5 := Lib.hid ha; have HS5 := Lib.hid hb; have HT5 := Lib.hid (tkeep HTX.out hst.kept); clear hr5 hst ha hb)
        go_roundw
        case rel => exact ⟨j + 1, S', D', by omega, by go_num, HR5, HS5, HT5, HB5.out⟩
        case measure => simp [intOf]; omega
      · have d1 : decide ((j : Int) < 48) = false := decide_eq_false (by omega)
        have e1 : min j 48 = 48 := by omega
        have e2 : min (j + 1) 48 = 48 := by omega
        have HW1 : Hid ((!fullW (wU (min j 48)) ⟨kU j, ⟨#[120]⟩, false⟩) = false) := Lib.hid (by rw [e1]; show (!fullW (wU 48) (fU j)) = false; rw [step_full j (by omega) q]; rfl)
        have HW2 : Hid ((⟨K, wU (min j 48), [], []⟩ : Vs).write ⟨kU j, ⟨#[120]⟩, false⟩ = ⟨K, wU (min (j + 1) 48), [], []⟩) := Lib.hid (by rw [e1, e2]; exact write_no (p := ⟨kU j, ⟨#[120]⟩, false⟩) (step_full j (by omega) q))
        clear e1 e2
        go_wp2_with (go_at_call 16; refine (set_to HV.out HW1.out HW2.out HRX.out HKL.out (kU_le j) (by decide)).mono ?_; rintro e w5 ⟨S', D', rfl, hr5, hst⟩; obtain ⟨ha, hb⟩ := after HBX.out HSO.out hst; have HR5 := Lib.hid hr5; have HB5 := Lib.hid ha; have HS5 := Lib.hid hb; have HT5 := Lib.hid (tkeep HTX.out hst.kept); clear hr5 hst ha hb)
        go_roundw
        case rel => exact ⟨j + 1, S', D', by omega, by go_num, HR5, HS5, HT5, HB5.out⟩
        case measure => simp [intOf]; omega
    · obtain rfl : j = k := by omega
      have HBL := Lib.hid hbel
      clear hbel
      rcases (show j < 48 ∨ 48 ≤ j by omega) with q | q
      · have d1 : decide ((j : Int) < 48) = true := decide_eq_true (by omega)
        have hmin : min (j : Int) 48 = j := by omega
        have e1 : min j 48 = j := by omega
        have hne : ((j : Int) != (j : Int)) = false := by simp
        go_wp2_with (first
          | (go_at_call 17; refine (writes_to HV.out HR.out HKL.out (by rw [len_wU, e1])).mono ?_; rintro e w6 ⟨r6, rfl, hb6⟩; have HB6 := Lib.hid (keeps HBL.out hb6); clear hb6)
          | (go_at_call 12; refine (fixed_is HV.out _).mono ?_; rintro e w7 ⟨rfl, hb7⟩; have HB7 := Lib.hid (keeps HB6.out hb7); clear hb7))
        go_ret
        exact ⟨rfl, HB7.out⟩
      · have d1 : decide ((j : Int) < 48) = false := decide_eq_false (by omega)
        have hmin : min (j : Int) 48 = 48 := by omega
        have e1 : min j 48 = 48 := by omega
        have HR0 : Hid (Rep wr v ⟨K, wU 48, [], []⟩ S D) := Lib.hid (by rw [← e1]; exact HR.out)
        have HW1 : Hid ((!fullW (wU 48) ⟨⟨#[107, 101, 121, 0]⟩, ⟨#[121]⟩, false⟩) = true) := Lib.hid (by show (!fullW (wU 48) pA) = true; rw [f_A]; rfl)
        have HW2 : Hid ((⟨K, wU 48, [], []⟩ : Vs).write ⟨⟨#[107, 101, 121, 0]⟩, ⟨#[121]⟩, false⟩ = ⟨K, wA, [], []⟩) := Lib.hid (write_put (s := ⟨K, wU 48, [], []⟩) (p := pA) f_A rfl)
        have HW3 : Hid ((!fullW wA ⟨⟨#[107, 101, 121, 1]⟩, ⟨#[]⟩, true⟩) = true) := Lib.hid (by show (!fullW wA pB) = true; rw [f_B]; rfl)
        obtain ⟨x, hx⟩ := got_is (o := getL ⟨#[107, 101, 121, 1]⟩ K)
        obtain ⟨W', hW4, hW5, hy⟩ : ∃ W', (⟨K, wA, [], []⟩ : Vs).write ⟨⟨#[107, 101, 121, 1]⟩, ⟨#[]⟩, true⟩ = ⟨K, W', [], []⟩ ∧ (!fullW W' ⟨⟨#[111, 110, 101, 32, 109, 111, 114, 101]⟩, ⟨#[122]⟩, false⟩) = (!(getL ⟨#[107, 101, 121, 1]⟩ K).isSome) ∧ True := by
          refine ⟨_, write_gone (s := ⟨K, wA, [], []⟩) (p := pB) f_B rfl, ?_, trivial⟩
          show (!fullW (if (getL pB.key K).isNone then cutL pB.key wA else putP pB wA) pC) = !(getL pB.key K).isSome
          cases getL pB.key K with
          | none => rw [if_pos (by rfl), f_C.2]; rfl
          | some p => rw [if_neg (by simp), f_C.1]; rfl
        generalize (getL ⟨#[107, 101, 121, 1]⟩ K).isSome = had at hx hW5
        have HX := Lib.hid hx
        have HW4 := Lib.hid hW4
        obtain ⟨ok, hok⟩ : ∃ ok, (!had) = ok := ⟨_, rfl⟩
        rw [hok] at hW5
        have HW5 := Lib.hid hW5
        have hz : (ok == had) = false := by rw [← hok]; cases had <;> rfl
        obtain ⟨ws, hws⟩ : ∃ ws, (⟨K, W', [], []⟩ : Vs).write ⟨⟨#[111, 110, 101, 32, 109, 111, 114, 101]⟩, ⟨#[122]⟩, false⟩ = ⟨K, ws, [], []⟩ := by
          unfold Vs.write
          split
          · exact ⟨_, rfl⟩
          · exact ⟨_, rfl⟩
        have HWS := Lib.hid hws
        clear hx hW4 hW5 hok hy hws
        go_wp2_with (first
          | (go_at_call 17; refine (writes_to HV.out HR0.out HKL.out (len_wU 48)).mono ?_; rintro e w6 ⟨r6, rfl, hb6⟩; have HB6 := Lib.hid (keeps HBL.out hb6); have HR6 := Lib.hid (HV.out.stays.below HR0.out hb6); have HT6 := Lib.hid (tbelow HT.out hb6); clear hb6)
          | (go_at_call 16; (with_reducible refine (set_to HV.out HW1.out HW2.out HR6.out HKL.out (by decide) (by decide)).mono ?_); rintro e w8 ⟨S8, D8, rfl, hr8, hst⟩; obtain ⟨ha, hb⟩ := after HB6.out HSO.out hst; have HR8 := Lib.hid hr8; have HB8 := Lib.hid ha; have HS8 := Lib.hid hb; have HT8 := Lib.hid (tkeep HT6.out hst.kept); clear hr8 hst ha hb)
          | (go_at_call 18; refine (get_to HT8.out HKL.out HX.out).mono ?_; rintro e w9 ⟨rfl, rfl⟩)
          | (go_at_call 19; refine (cut_to HV.out HW3.out HW4.out HR8.out HKL.out (by decide)).mono ?_; rintro e w10 ⟨S10, D10, rfl, hr10, hst⟩; obtain ⟨ha, hb⟩ := after HB8.out HS8.out hst; have HR10 := Lib.hid hr10; have HB10 := Lib.hid ha; have HS10 := Lib.hid hb; clear hr10 hst ha hb)
          | (go_at_call 12; refine (fixed_is HV.out _).mono ?_; rintro e w7 ⟨rfl, hb7⟩; have HB7 := Lib.hid (keeps HB10.out hb7); have HR7 := Lib.hid (HV.out.stays.below HR10.out hb7); clear hb7)
          | (go_at_call 16; (with_reducible refine (set_to HV.out HW5.out HWS.out HR7.out HKL.out (by decide) (by decide)).mono ?_); rintro e w11 ⟨S11, D11, rfl, hr11, hst⟩; obtain ⟨ha, hb⟩ := after HB7.out HS10.out hst; have HB11 := Lib.hid ha; clear hr11 hst ha hb))
        go_ret
        exact ⟨rfl, HB11.out⟩
end Go.Proofs.Ytdnenikplajmaaa.ViewU
