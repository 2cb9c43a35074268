/- Layer 10's law TreeOrder, over what the project's functions are asked. -/
import Derived.Test.YtmbgbdhanobphaaTreeT
namespace Go.Proofs.Ytmbgbdhanobphaa.TreeO
set_option linter.unusedVariables false
set_option linter.unusedSimpArgs false
open Go.RowKit
open Go.Proofs.Ytmbgbdhanobphaa.Byte Go.Proofs.Ytmbgbdhanobphaa.KeysM Go.Proofs.Ytmbgbdhanobphaa.TreeM Go.Proofs.Ytmbgbdhanobphaa.Own Go.Proofs.Ytmbgbdhanobphaa.Rw Go.Proofs.Ytmbgbdhanobphaa.Lst Go.Proofs.Ytmbgbdhanobphaa.TreeR Go.Proofs.Ytmbgbdhanobphaa.TreeS Go.Proofs.Ytmbgbdhanobphaa.TreeC Go.Proofs.Ytmbgbdhanobphaa.TreeL Go.Proofs.Ytmbgbdhanobphaa.TreeT
variable {Rep : World → Value → List Pr → Nat → Prop}

/-- Just these keys are there, each with itself as its value. -/
def Mem (f : Nat → ByteArray) (i : Nat) (K : List Pr) : Prop := ∀ p, p ∈ K ↔ ∃ j, j < i ∧ p = ⟨f j, f j, false⟩
theorem Mem.zero (f : Nat → ByteArray) : Mem f 0 [] := fun p => by simp
theorem Mem.succ {f : Nat → ByteArray} {i : Nat} {K : List Pr} (h : Mem f i K) : Mem f (i + 1) (putL (f i) (f i) K) := by
  intro p
  constructor
  · intro hp
    rcases mem_put hp with rfl | ⟨hp, _⟩
    · exact ⟨i, by omega, rfl⟩
    · obtain ⟨j, hj, e⟩ := (h p).1 hp
      exact ⟨j, by omega, e⟩
  · rintro ⟨j, hj, rfl⟩
    by_cases he : f j = f i
    · rw [he]
      exact put_new _ _ _
    · have hji : j < i := by
        rcases Nat.lt_or_ge j i with h1 | h1
        · exact h1
        · have : j = i := by omega
          subst this
          exact absurd rfl he
      exact put_mem ((h _).2 ⟨j, hji, rfl⟩) he
theorem Mem.both {f : Nat → ByteArray} {n k : Nat} {K M : List Pr} (hk : k < n) (h1 : Mem f n K) (h2 : Mem (fun j => f ((j + k) % n)) n M) (r1 : Rise K) (r2 : Rise M) : K = M := by
  refine rise_ext r1 r2 fun p => ?_
  rw [h1 p, h2 p]
  constructor
  · rintro ⟨j, hj, rfl⟩
    have e : ((j + n - k) % n + k) % n = j := by
      rw [Nat.mod_add_mod, show j + n - k + k = j + n by omega, Nat.add_mod_right, Nat.mod_eq_of_lt hj]
    exact ⟨(j + n - k) % n, Nat.mod_lt _ (by omega), by dsimp only; rw [e]⟩
  · rintro ⟨j, hj, rfl⟩
    exact ⟨(j + k) % n, Nat.mod_lt _ (by omega), rfl⟩
def stE : Enc ByteArray := ⟨fun s => [.string s], 1, fun _ => rfl, fun x u hu => by
  rw [List.mem_singleton] at hu
  subst hu
  rfl, by decide⟩
theorem st_cell {w : World} {b o k : Nat} {x : ByteArray} (h : w.rangeAt b (o + k * stE.size) (stE.cells x)) : w.cell? ⟨b, o + k, none⟩ = some (.string x) := by
  have := h 0 _ rfl
  rw [show stE.size = 1 from rfl, Nat.mul_one] at this
  exact this
set_option maxRecDepth 100000 in
set_option maxHeartbeats 4000000 in
theorem order_law (hT : Tr Rep) (hF : FixOk) (A : Option Addr) (n c : Nat) (L : List ByteArray) (by_ : Int) (w : World) (hl : Sl stE w A n L) (hs : ∀ s ∈ L, s.size ≤ maxLen) (hn : n ≤ maxLen) (h0 : 0 ≤ by_) (h1 : by_ ≤ 255) :
    Calls Try.prog 6 #[.slice A n c, .int .u8 by_] w fun e w' => e = .returned (.bool true) ∧ Below w.heap.size w w' := by
  unfold maxLen at hn
  have HT := Lib.hid hT
  have HF := Lib.hid hF
  have HL := Lib.hid hl
  have HS := Lib.hid hs
  clear hT hF hl hs
  rcases (show 200 < n ∨ n = 0 ∨ (0 < n ∧ n ≤ 200) by omega) with hb | hb | ⟨hb, hb2⟩
  · have d : decide ((200 : Int) < (n : Int)) = true := decide_eq_true (by omega)
    go_enter Try.func6, Try.ntmps6
    go_wp2_with fail
    refine (HF.out _).mono ?_
    rintro e w7 ⟨rfl, hb7⟩
    have HB7 := Lib.hid hb7
    clear hb7
    go_wp2_with fail
    go_ret
    exact ⟨rfl, HB7.out⟩
  · subst hb
    go_enter Try.func6, Try.ntmps6
    go_wp2_with fail
    refine (HF.out _).mono ?_
    rintro e w7 ⟨rfl, hb7⟩
    have HB7 := Lib.hid hb7
    clear hb7
    go_wp2_with fail
    go_ret
    exact ⟨rfl, HB7.out⟩
  · have d : decide ((200 : Int) < (n : Int)) = false := decide_eq_false (by omega)
    have d0 : ((n : Int) == 0) = false := by rw [beq_eq_false_iff_ne]; omega
    obtain ⟨k, hk⟩ : ∃ k : Nat, by_ % (n : Int) = (k : Int) := ⟨(by_ % (n : Int)).toNat, by have := Int.emod_nonneg by_ (show (n : Int) ≠ 0 by omega); omega⟩
    have hkn : k < n := by have := Int.emod_lt_of_pos by_ (show (0 : Int) < (n : Int) by omega); omega
    have htm : by_.tmod (n : Int) = (k : Int) := by rw [Int.tmod_eq_emod_of_nonneg h0, hk]
    have f0 : ¬ n = 0 := by omega
    have r1 : IntKind.i64.wrap by_ = by_ := by rw [IntKind.wrap_i64]; omega
    go_enter Try.func6, Try.ntmps6
    go_wp2_with fail
    refine (HT.out.new _).mono ?_
    rintro e w1 ⟨va, ha, rfl, hra, hb1⟩
    have HB1 := Lib.hid hb1
    have HR1 := Lib.hid hra
    clear hb1 hra
    go_wp2_with fail
    refine (HT.out.new _).mono ?_
    rintro e w2 ⟨vb, hb9, rfl, hrb, hb2'⟩
    have HB2 := Lib.hid (keeps HB1.out hb2')
    have HRA := Lib.hid (HT.out.below HR1.out hb2')
    have HRB := Lib.hid hrb
    clear hb2' hrb HR1
    have HN0 := Lib.hid f0
    obtain ⟨f, hf⟩ : ∃ f : Nat → ByteArray, (fun j => L.getD j ⟨#[]⟩) = f := ⟨_, rfl⟩
    have HFF := Lib.hid hf
    clear hf
    go_wp2
    clear htm hk r1
    go_loopw [5, 6, 28] (fun a b i wr => ∃ (j : Nat) (v v2 : Value) (K K2 : List Pr) (h h2 : Nat), j ≤ n ∧ i = .int .i64 j ∧ v = a ∧ v2 = b ∧ Rep wr v K h ∧ Rep wr v2 K2 h2 ∧ Hid (Mem f j K) ∧ Hid (Mem (fun j => f ((j + k) % n)) j K2) ∧ K.length ≤ j ∧ K2.length ≤ j ∧ Below w.heap.size w wr) (fun _ _ i _ => n - (intOf i).toNat)
    case atStart => exact ⟨0, _, _, [], [], ha, hb9, Nat.zero_le _, rfl, rfl, rfl, HRA.out, HRB.out, Lib.hid (Mem.zero _), Lib.hid (Mem.zero _), Nat.le_refl _, Nat.le_refl _, HB2.out⟩
    case round =>
      obtain ⟨j, v, v2, K, K2, h, h2, hj, rfl, rfl, rfl, hr1, hr2, HM1, HM2, hl1, hl2, hbel⟩ := hrel
      have HR1 := Lib.hid hr1
      have HR2 := Lib.hid hr2
      have HBL := Lib.hid hbel
      clear hr1 hr2 HRA HRB HB2 HB1
      by_cases hlt : j < n
      · obtain ⟨x, g, o, hx, rfl, hg, hc1⟩ := (HL.out.below hbel).get j hlt
        obtain ⟨q, hq⟩ : ∃ q, (j + k) % n = q := ⟨_, rfl⟩
        have hqn : q < n := by rw [← hq]; exact Nat.mod_lt _ hb
        obtain ⟨y, hy⟩ : ∃ y, L[q]? = some y := ⟨_, List.getElem?_eq_getElem (by rw [HL.out.1]; exact hqn)⟩
        have hfx : x = f j := by rw [← HFF.out]; simp [List.getD_eq_getElem?_getD, hx]
        have hfy : y = f ((j + k) % n) := by rw [hq, ← HFF.out]; simp [List.getD_eq_getElem?_getD, hy]
        have c0 := st_cell hc1
        have hxs : (x.size : Int) ≤ 9223372036854775807 := by
          have := HS.out x (List.mem_of_getElem? hx)
          unfold maxLen at this
          omega
        have HXS := Lib.hid (HS.out x (List.mem_of_getElem? hx))
        have HYS := Lib.hid (HS.out y (List.mem_of_getElem? hy))
        have HY := Lib.hid hy
        have HFX := Lib.hid hfx
        have HFY := Lib.hid hfy
        have HQ := Lib.hid hq
        have hqi : (((j : Int) + (k : Int)) % (n : Int)) = (q : Int) := by rw [← hq]; simp
        have hqt : (((j : Int) + (k : Int)).tmod (n : Int)) = (q : Int) := by rw [Int.tmod_eq_emod_of_nonneg (by omega), hqi]
        clear hc1 hx hy hfx hfy hq hbel
        by_cases hbig : 200 < x.size
        · have d : decide ((200 : Int) < (x.size : Int)) = true := decide_eq_true (by omega)
          go_wp2_with fail
          refine (HF.out _).mono ?_
          rintro e w7 ⟨rfl, hb7⟩
          have HB7 := Lib.hid (keeps HBL.out hb7)
          clear hb7
          go_wp2_with fail
          go_ret
          exact ⟨rfl, HB7.out⟩
        · have d : decide ((200 : Int) < (x.size : Int)) = false := decide_eq_false (by omega)
          go_wp2_with fail
          refine (HT.out.set x x HR1.out (by omega) HXS.out HXS.out).mono ?_
          rintro e w3 ⟨v', h', rfl, hr3, hb3⟩
          have HR3 := Lib.hid hr3
          have HR2' := Lib.hid (HT.out.below HR2.out hb3)
          have hb3' := keeps HBL.out hb3
          have HB3 := Lib.hid hb3'
          have c1 := st_cell ((HL.out.below hb3').at_ q y HY.out).2
          clear hr3 hb3 hb3' HR1
          have f0 := HN0.out
          go_wp2_with fail
          refine (HT.out.set y y HR2'.out (by omega) HYS.out HYS.out).mono ?_
          rintro e w4 ⟨v4, h4, rfl, hr4, hb4⟩
          have HR4 := Lib.hid hr4
          have HR5 := Lib.hid (HT.out.below HR3.out hb4)
          have HB4 := Lib.hid (keeps HB3.out hb4)
          clear hr4 hb4 HR3
          go_wp2_with fail
          go_roundw
          case rel =>
            refine ⟨j + 1, v', v4, _, _, h', h4, by omega, by go_num, rfl, rfl, HR5.out, HR4.out, Lib.hid ?_, Lib.hid ?_, Nat.le_trans (put_len _ _ _) (by omega), Nat.le_trans (put_len _ _ _) (by omega), HB4.out⟩
            · rw [HFX.out]
              exact HM1.out.succ
            · rw [HFY.out]
              exact HM2.out.succ
          case measure => simp [intOf]; omega
      · obtain rfl : j = n := by omega
        have HKK : Hid (K = K2) := Lib.hid (Mem.both hkn HM1.out HM2.out (HT.out.rise HR1.out) (HT.out.rise HR2.out))
        obtain ⟨W, hW⟩ : ∃ W, rangeL ⟨#[]⟩ FF K = W := ⟨_, rfl⟩
        have hW2 : rangeL ⟨#[]⟩ FF K2 = W := by rw [← HKK.out]; exact hW
        have hWl : W.length ≤ 200 := by rw [← hW]; exact Nat.le_trans (range_len _ _ _) (by omega)
        have HW := Lib.hid hW
        have HW2 := Lib.hid hW2
        have hll : K2.length = K.length := by rw [HKK.out]
        have HLL := Lib.hid hll
        clear hW hW2 hll hbel
        go_wp2_with fail
        refine (HF.out _).mono ?_
        rintro e w3 ⟨rfl, hb3⟩
        have HB3 := Lib.hid (keeps HBL.out hb3)
        have HA3 := Lib.hid (HT.out.below HR1.out hb3)
        have HC3 := Lib.hid (HT.out.below HR2.out hb3)
        clear hb3
        go_wp2_with fail
        refine (HT.out.len HA3.out (by omega)).mono ?_
        rintro e w4 ⟨rfl, hb4⟩
        have HB4 := Lib.hid (keeps HB3.out hb4)
        have HA4 := Lib.hid (HT.out.below HA3.out hb4)
        have HC4 := Lib.hid (HT.out.below HC3.out hb4)
        clear hb4
        go_wp2_with fail
        refine (len_is HT.out HC4.out HLL.out (by omega)).mono ?_
        rintro e w5 ⟨rfl, hb5⟩
        have HB5 := Lib.hid (keeps HB4.out hb5)
        have HA5 := Lib.hid (HT.out.below HA4.out hb5)
        have HC5 := Lib.hid (HT.out.below HC4.out hb5)
        clear hb5
        go_wp2_with fail
        refine (range_is HT.out HA5.out ⟨#[]⟩ FF HW.out (by omega) (by decide) (by decide)).mono ?_
        rintro e w6 ⟨AB, cd, rfl, hs6, hb6⟩
        have HB6 := Lib.hid (keeps HB5.out hb6)
        have HC6 := Lib.hid (HT.out.below HC5.out hb6)
        have HS6 := Lib.hid hs6
        clear hb6 hs6
        go_wp2_with fail
        refine (range_is HT.out HC6.out ⟨#[]⟩ FF HW2.out (by omega) (by decide) (by decide)).mono ?_
        rintro e w7 ⟨AC, ce, rfl, hs7, hb7⟩
        have HB7 := Lib.hid (keeps HB6.out hb7)
        have HS6' := Lib.hid (HS6.out.below hb7)
        have HS7 := Lib.hid hs7
        clear hb7 hs7
        go_wp2_with fail
        refine (refsame_calls _ _ _ _ _ _ W W _ HS6'.out HS7.out (by omega) (by omega) rfl).mono ?_
        rintro e w8 ⟨rfl, hb8⟩
        have HB8 := Lib.hid (keeps HB7.out hb8)
        clear hb8
        go_wp2_with fail
        go_ret
        exact ⟨rfl, HB8.out⟩
end Go.Proofs.Ytmbgbdhanobphaa.TreeO
