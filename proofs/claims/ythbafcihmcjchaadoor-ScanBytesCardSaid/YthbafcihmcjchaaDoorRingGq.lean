/- The contract of the project's Get of layer 7. -/
import Derived.Test.YthbafcihmcjchaaDoorRingGp
import Derived.Test.YthbafcihmcjchaaDoorRingG
import Derived.StillTailTactics
import Derived.Deep.Cut
namespace Go.Proofs.YthbafcihmcjchaaDoor.RingGq
set_option linter.unusedVariables false
set_option linter.unusedSimpArgs false
open Go.RowKit
open Go.Proofs.YthbafcihmcjchaaDoor.Byte Go.Proofs.YthbafcihmcjchaaDoor.PackM Go.Proofs.YthbafcihmcjchaaDoor.PackW Go.Proofs.YthbafcihmcjchaaDoor.PlaceM Go.Proofs.YthbafcihmcjchaaDoor.PlaceV Go.Proofs.YthbafcihmcjchaaDoor.PlaceH Go.Proofs.YthbafcihmcjchaaDoor.RingM Go.Proofs.YthbafcihmcjchaaDoor.RingN Go.Proofs.YthbafcihmcjchaaDoor.RingC Go.Proofs.YthbafcihmcjchaaDoor.RingE Go.Proofs.YthbafcihmcjchaaDoor.RingGp Go.Proofs.YthbafcihmcjchaaDoor.Own

attribute [local go_sem] Own.run_store_complex
/-- The error behind the byte for Gone, the key, the value. -/
def e0 (xs : List Int) : Int := if xs.length < 22 then 3 else if 1 < ex xs 21 1 then 2 else 0
def e1 (xs : List Int) : Int := if e0 xs ≠ 0 then e0 xs else te xs 22 48
def e2 (xs : List Int) : Int := if e1 xs ≠ 0 then e1 xs else te xs (ti xs 22 48) 64
/-- The reader behind the key; the key. -/
def Ak (w : World) (r : Nat) (A : Option Addr) (n c : Nat) (xs : List Int) (s : ByteArray) : Prop := ∃ a : Int, Rd w r A n c a (e1 xs) ∧ (e1 xs = 0 → a = ti xs 22 48 ∧ s = tx xs 22 48)
def Av (w : World) (r : Nat) (A : Option Addr) (n c : Nat) (xs : List Int) (s : ByteArray) : Prop := ∃ a : Int, Rd w r A n c a (e2 xs) ∧ (e2 xs = 0 → a = ti xs (ti xs 22 48) 64 ∧ s = tx xs (ti xs 22 48) 64)
theorem same_grown (w : World) (r : Option Nat) : w.grownBy w r := ⟨rfl, rfl, rfl, Nat.le_refl _, fun _ _ _ => rfl⟩
theorem key_any (A : Option Addr) (n c r : Nat) (xs : List Int) (w : World) (hb : Bs w A n xs) (hn : n ≤ 100000) (hc : n ≤ c) (hR : Ag w r A n c (ex xs 21 1)) :
    Calls Tryd.prog 46 #[.pointer (some ⟨r, 0, none⟩), .int .i64 48] w fun x w' => ∃ s, x = .returned (.string s) ∧ Ak w' r A n c xs s ∧ w.grownBy w' (some r) := by
  obtain ⟨a, h1, h2⟩ := hR
  have hl := hb.len
  rw [show (if n < 22 then (3 : Int) else if 1 < ex xs 21 1 then 2 else 0) = e0 xs by unfold e0; rw [hl]] at h1
  by_cases h : e0 xs = 0
  · rw [h] at h1
    have hn22 : 22 ≤ n := by
      unfold e0 at h
      split at h
      · cases h
      · omega
    obtain rfl := h2 hn22
    refine (text_good A n c r xs 22 48 w hb hn hc h1 (by omega) (by omega)).mono ?_
    rintro x w' ⟨rfl, h3, h4⟩
    have e : e1 xs = te xs 22 48 := by unfold e1; rw [h]; rfl
    exact ⟨_, rfl, ⟨_, by rw [e]; exact h3, fun _ => ⟨rfl, rfl⟩⟩, h4⟩
  · refine (text_bad A n c r a (e0 xs) 48 w h1 h).mono ?_
    rintro x w' ⟨rfl, rfl⟩
    have e : e1 xs = e0 xs := by unfold e1; rw [if_pos h]
    exact ⟨_, rfl, ⟨a, by rw [e]; exact h1, fun h3 => absurd (e ▸ h3) h⟩, same_grown _ _⟩
theorem e1_zero {xs : List Int} (h : e1 xs = 0) : ¬ xs.length < 22 ∧ ¬ 1 < ex xs 21 1 ∧ te xs 22 48 = 0 := by
  unfold e1 at h
  split at h
  · rename_i h1
    exact absurd h h1
  · rename_i h1
    have h1 : e0 xs = 0 := by
      rcases Int.lt_trichotomy (e0 xs) 0 with h2 | h2 | h2
      · exact absurd (show e0 xs ≠ 0 by omega) h1
      · exact h2
      · exact absurd (show e0 xs ≠ 0 by omega) h1
    unfold e0 at h1
    split at h1
    · cases h1
    · split at h1
      · cases h1
      · exact ⟨by assumption, by assumption, h⟩
theorem value_any (A : Option Addr) (n c r : Nat) (xs : List Int) (s : ByteArray) (w : World) (hb : Bs w A n xs) (hn : n ≤ 100000) (hc : n ≤ c) (hR : Ak w r A n c xs s) :
    Calls Tryd.prog 46 #[.pointer (some ⟨r, 0, none⟩), .int .i64 64] w fun x w' => ∃ s, x = .returned (.string s) ∧ Av w' r A n c xs s ∧ w.grownBy w' (some r) := by
  obtain ⟨a, h1, h2⟩ := hR
  by_cases h : e1 xs = 0
  · rw [h] at h1
    obtain ⟨rfl, _⟩ := h2 h
    have hbd := ti_bd (m := 48) hb.2.1 (e1_zero h).2.2
    have hl := hb.len
    refine (text_good A n c r xs (ti xs 22 48) 64 w hb hn hc h1 (by omega) (by omega)).mono ?_
    rintro x w' ⟨rfl, h3, h4⟩
    have e : e2 xs = te xs (ti xs 22 48) 64 := by unfold e2; rw [h]; rfl
    exact ⟨_, rfl, ⟨_, by rw [e]; exact h3, fun _ => ⟨rfl, rfl⟩⟩, h4⟩
  · refine (text_bad A n c r a (e1 xs) 64 w h1 h).mono ?_
    rintro x w' ⟨rfl, rfl⟩
    have e : e2 xs = e1 xs := by unfold e2; rw [if_pos h]
    exact ⟨_, rfl, ⟨a, by rw [e]; exact h1, fun h3 => absurd (e ▸ h3) h⟩, same_grown _ _⟩
/-- The item as it was read. -/
def rit (xs : List Int) (s t : ByteArray) : It := ⟨ex xs 0 8, ex xs 8 8, ex xs 16 1, ex xs 17 1, gre (ex xs 18 1) (ex xs 19 1) (ex xs 20 1), gim (ex xs 18 1) (ex xs 19 1) (ex xs 20 1), ex xs 21 1 == 1, s, t⟩
theorem ex_is (xs : List Int) (p : Nat) (h : p + 1 ≤ xs.length) : ex xs p 1 = xs.getD p 0 := by
  unfold ex
  rw [if_neg (by omega), getn_one xs p (by omega)]
theorem bad_is {xs : List Int} (h : e2 xs ≠ 0) : gerr xs = e2 xs ∧ gans xs = none_ := by
  by_cases h0 : xs.length < 22
  · have a : e0 xs = 3 := if_pos h0
    have b : e1 xs = 3 := by unfold e1; rw [a]; rfl
    have c : e2 xs = 3 := by unfold e2; rw [b]; rfl
    rw [c]
    exact ge_short h0
  · have hx := ex_is xs 21 (by omega)
    by_cases h1 : 1 < xs.getD 21 0
    · have a : e0 xs = 2 := by unfold e0; rw [if_neg h0, hx, if_pos h1]
      have b : e1 xs = 2 := by unfold e1; rw [a]; rfl
      have c : e2 xs = 2 := by unfold e2; rw [b]; rfl
      rw [c]
      exact ge_form h0 h1
    · have a : e0 xs = 0 := by unfold e0; rw [if_neg h0, hx, if_neg h1]
      have b : e1 xs = te xs 22 48 := by unfold e1; rw [a]; rfl
      by_cases h2 : te xs 22 48 ≠ 0
      · have c : e2 xs = te xs 22 48 := by unfold e2; rw [b, if_pos h2]
        rw [c]
        exact ge_key h0 h1 h2
      · have c : e2 xs = te xs (ti xs 22 48) 64 := by unfold e2; rw [b, if_neg h2]
        rw [c] at h ⊢
        exact ge_value h0 h1 h2 h
theorem good_is {xs : List Int} (h : e2 xs = 0) : ¬ xs.length < 22 ∧ ¬ 1 < xs.getD 21 0 ∧ te xs 22 48 = 0 ∧ te xs (ti xs 22 48) 64 = 0 ∧ rit xs (tx xs 22 48) (tx xs (ti xs 22 48) 64) = gitem xs := by
  unfold e2 at h
  split at h
  · rename_i h1
    exact absurd h h1
  · rename_i h1
    have h1 : e1 xs = 0 := by
      rcases Int.lt_trichotomy (e1 xs) 0 with h2 | h2 | h2
      · exact absurd (show e1 xs ≠ 0 by omega) h1
      · exact h2
      · exact absurd (show e1 xs ≠ 0 by omega) h1
    obtain ⟨a, b, c⟩ := e1_zero h1
    rw [ex_is xs 21 (by omega)] at b
    refine ⟨a, b, c, h, ?_⟩
    unfold rit gitem
    rw [ex_is xs 16 (by omega), ex_is xs 17 (by omega), ex_is xs 18 (by omega), ex_is xs 19 (by omega), ex_is xs 20 (by omega), ex_is xs 21 (by omega)]
    have p0 : ex xs 0 8 = getn xs 0 8 := by unfold ex; rw [if_neg (by omega)]
    have p8 : ex xs 8 8 = getn xs 8 8 := by unfold ex; rw [if_neg (by omega)]
    rw [p0, p8]
theorem e2_one {xs : List Int} (h : e2 xs = 0) : e1 xs = 0 := by
  unfold e2 at h
  split at h
  · rename_i h1
    exact absurd h h1
  · rename_i h1
    rcases Int.lt_trichotomy (e1 xs) 0 with h2 | h2 | h2
    · exact absurd (show e1 xs ≠ 0 by omega) h1
    · exact h2
    · exact absurd (show e1 xs ≠ 0 by omega) h1
/-- What Get keeps: nothing that was there has changed, the bytes, the answer's box, where is nowhere. -/
def Kp (w : World) (A : Option Addr) (n : Nat) (xs : List Int) (v : World) : Prop := Below w.heap.size w v ∧ Bs v A n xs ∧ Blk v w.heap.size zer 47 ∧ Nowhere v ∧ w.heap.size + 1 < v.heap.size
theorem Kp.step {w v v' : World} {A : Option Addr} {n : Nat} {xs : List Int} (hb : Bs w A n xs) (hN : Nowhere w) (h : Kp w A n xs v) (hg : v.grownBy v' (some (w.heap.size + 1))) : Kp w A n xs v' := by
  obtain ⟨h1, _, h3, _, h5⟩ := h
  have hw : Below w.heap.size w v' := h1.grown hg h1.size (by intro k hk; injection hk with hk; omega)
  exact ⟨hw, hb.below hw, h3.grown hg (by omega), hN.below hw, Nat.lt_of_lt_of_le h5 hg.size⟩
theorem zer8 (V : World) (g : Nat) (x0 x1 : Int) (x2 x3 : Int) (x4 x5 : Nat) (x6 : Bool) (x7 x8 : ByteArray) (h : Blk V g zer 47) :
    Blk (((((((((V.setCell ⟨g, 0, none⟩ (.int .u64 x0)).setCell ⟨g, 1, none⟩ (.int .u64 x1)).setCell ⟨g, 2, none⟩ (.int .i64 x2)).setCell ⟨g, 3, none⟩ (.int .i64 x3)).setCell ⟨g, 4, none⟩ (.complex .f64 x4 x5)).setCell ⟨g, 5, none⟩ (.bool x6)).setCell ⟨g, 6, none⟩ (.string x7)).setCell ⟨g, 7, none⟩ (.string x8))) g #[.int .u64 x0, .int .u64 x1, .int .i64 x2, .int .i64 x3, .complex .f64 x4 x5, .bool x6, .string x7, .string x8] 47 ∧
    V.grownBy (((((((((V.setCell ⟨g, 0, none⟩ (.int .u64 x0)).setCell ⟨g, 1, none⟩ (.int .u64 x1)).setCell ⟨g, 2, none⟩ (.int .i64 x2)).setCell ⟨g, 3, none⟩ (.int .i64 x3)).setCell ⟨g, 4, none⟩ (.complex .f64 x4 x5)).setCell ⟨g, 5, none⟩ (.bool x6)).setCell ⟨g, 6, none⟩ (.string x7)).setCell ⟨g, 7, none⟩ (.string x8))) (some g) := by
  refine ⟨?_, ((((((((grown_set1 _ _ _ _).trans (grown_set1 _ _ _ _)).trans (grown_set1 _ _ _ _)).trans (grown_set1 _ _ _ _)).trans (grown_set1 _ _ _ _)).trans (grown_set1 _ _ _ _)).trans (grown_set1 _ _ _ _)).trans (grown_set1 _ _ _ _))⟩
  have := (((((((h.set_ 0 (.int .u64 x0)).set_ 1 (.int .u64 x1)).set_ 2 (.int .i64 x2)).set_ 3 (.int .i64 x3)).set_ 4 (.complex .f64 x4 x5)).set_ 5 (.bool x6)).set_ 6 (.string x7)).set_ 7 (.string x8)
  simpa [zer, cells, none_] using this
theorem blk2 (w : World) (x y : Array Value) (t u : TypeId) : Blk ((w.alloc (.cells x t)).alloc (.cells y u)) w.heap.size x t ∧ Blk ((w.alloc (.cells x t)).alloc (.cells y u)) (w.heap.size + 1) y u ∧ Below w.heap.size w ((w.alloc (.cells x t)).alloc (.cells y u)) := by
  refine ⟨(Blk.new_ w x t).alloc _, ?_, ((Below.refl _ _).alloc (Nat.le_refl _) _).alloc (by simp) _⟩
  have := Blk.new_ (w.alloc (.cells x t)) y u
  simpa using this
set_option maxRecDepth 100000 in
set_option maxHeartbeats 4000000 in
theorem get_item (A : Option Addr) (n c : Nat) (xs : List Int) (w : World) (hb : Bs w A n xs) (hn : n ≤ 100000) (hc : n ≤ c) (hN : Nowhere w) :
    Calls Tryd.prog 26 #[.slice A n c] w (ItE (gans xs) (gerr xs) w) := by
  have hl := hb.len
  have hN1 := hN.1
  have b16 := ex_bd xs 16 hb.2.1
  have b17 := ex_bd xs 17 hb.2.1
  have KS := Lib.hid (fun (v v' : World) (h : Kp w A n xs v) (hg : v.grownBy v' (some (w.heap.size + 1))) => Kp.step hb hN h hg)
  have HNE : Hid (∀ b o, A = some ⟨b, o, none⟩ → 0 < n → b ≠ w.heap.size + 1) := Lib.hid (fun b o e h => by
    obtain ⟨b', o', e', h1, _⟩ := hb.2.2 0 h
    rw [e] at e'
    injection e' with e'
    injection e' with e' _
    omega)
  obtain ⟨W, hW⟩ : ∃ W, (w.alloc (.cells zer 47)).alloc (.cells #[.slice A n c, .int .i64 0, .int .i64 0] 85) = W := ⟨_, rfl⟩
  obtain ⟨k1, k2, k3⟩ := blk2 w zer #[.slice A n c, .int .i64 0, .int .i64 0] 47 85
  rw [hW] at k1 k2 k3
  have HS0 : Hid (Kp w A n xs W) := Lib.hid ⟨k3, hb.below k3, k1, hN.below k3, k2.lt⟩
  have HA0 : Hid (At W (w.heap.size + 1) A n c 0) := Lib.hid ⟨0, by rw [if_neg (by omega)]; exact k2, fun _ => rfl⟩
  clear k1 k2 k3 hb hN
  go_enter Tryd.func26, Tryd.ntmps26
  go_wp2_with fail
  change Calls _ _ _ ((w.alloc (.cells zer 47)).alloc (.cells #[.slice A n c, .int .i64 0, .int .i64 0] 85)) _
  rw [hW]
  clear hW
  refine (number_any A n c (w.heap.size + 1) 0 8 xs W HS0.out.2.1 hn HA0.out rfl (by omega) (by omega)).mono ?_
  rintro e w1 ⟨rfl, hA, hg⟩
  have HS1 := Lib.hid (KS.out _ _ HS0.out hg)
  have HA1 := Lib.hid hA
  clear hA hg
  go_wp2_with fail
  refine (number_any A n c (w.heap.size + 1) 8 8 xs w1 HS1.out.2.1 hn HA1.out rfl (by omega) (by omega)).mono ?_
  rintro e w2 ⟨rfl, hA, hg⟩
  have HS2 := Lib.hid (KS.out _ _ HS1.out hg)
  have HA2 := Lib.hid hA
  clear hA hg
  go_wp2_with fail
  refine (number_any A n c (w.heap.size + 1) 16 1 xs w2 HS2.out.2.1 hn HA2.out rfl (by omega) (by omega)).mono ?_
  rintro e w3 ⟨rfl, hA, hg⟩
  have HS3 := Lib.hid (KS.out _ _ HS2.out hg)
  have HA3 := Lib.hid hA
  clear hA hg
  go_wp2_with fail
  refine (number_any A n c (w.heap.size + 1) 17 1 xs w3 HS3.out.2.1 hn HA3.out rfl (by omega) (by omega)).mono ?_
  rintro e w4 ⟨rfl, hA, hg⟩
  have HS4 := Lib.hid (KS.out _ _ HS3.out hg)
  have HA4 := Lib.hid hA
  clear hA hg
  go_wp2_with fail
  refine (place_any A n c (w.heap.size + 1) 18 xs w4 HS4.out.2.1 hn HA4.out HNE.out (by omega) HS4.out.2.2.2.2 HS4.out.2.2.2.1).mono ?_
  rintro e w5 ⟨rfl, hA, hg⟩
  have HS5 := Lib.hid (KS.out _ _ HS4.out hg)
  have HA5 := Lib.hid hA
  clear hA hg
  go_wp2_with fail
  refine (gone_any A n c (w.heap.size + 1) xs w5 HS5.out.2.1 hn HA5.out).mono ?_
  rintro e w6 ⟨rfl, hA, hg⟩
  have HS6 := Lib.hid (KS.out _ _ HS5.out hg)
  have HA6 := Lib.hid hA
  clear hA hg
  go_wp2_with fail
  refine (key_any A n c (w.heap.size + 1) xs w6 HS6.out.2.1 hn hc HA6.out).mono ?_
  rintro e w7 ⟨s, rfl, hA, hg⟩
  have HS7 := Lib.hid (KS.out _ _ HS6.out hg)
  have HK7 := Lib.hid hA
  clear hg
  go_wp2_with fail
  refine (value_any A n c (w.heap.size + 1) xs s w7 HS7.out.2.1 hn hc hA).mono ?_
  rintro e w8 ⟨t, rfl, hA8, hg⟩
  have HS8 := Lib.hid (KS.out _ _ HS7.out hg)
  obtain ⟨a, hr, ha⟩ := hA8
  clear hg hA
  obtain ⟨V, hV⟩ : ∃ V, w8.alloc (.cells (cells (rit xs s t)) 47) = V := ⟨_, rfl⟩
  have hWB : Below w8.heap.size w8 V := by rw [← hV]; exact (Below.refl _ _).alloc (Nat.le_refl _) _
  have hX : Blk V w8.heap.size (cells (rit xs s t)) 47 := by rw [← hV]; exact Blk.new_ _ _ _
  have hR : Rd V (w.heap.size + 1) A n c a (e2 xs) := Blk.below hr hWB
  have HV : Hid (Below w.heap.size w V ∧ Blk V w.heap.size zer 47) := Lib.hid ⟨keeps HS8.out.1 hWB, HS8.out.2.2.1.below hWB⟩
  have HX := Lib.hid hX
  have HAA := Lib.hid ha
  have c1 : V.cell? ⟨w.heap.size + 1, 1, none⟩ = some (.int .i64 a) := Blk.cell hR 1
  have c2 : V.cell? ⟨w.heap.size + 1, 2, none⟩ = some (.int .i64 (e2 xs)) := Blk.cell hR 2
  have HVE := Lib.hid hV
  clear hr ha hWB hX hR hV
  go_upto_region 3 with (fail)
  change Code.wp _ _ _ _ (w8.alloc (.cells (cells (rit xs s t)) 47))
  rw [HVE.out]
  clear HVE
  have z0 := HV.out.2.cell 0
  have f0 := HV.out.2.frozen 0
  have z1 := HV.out.2.cell 1
  have f1 := HV.out.2.frozen 1
  have z2 := HV.out.2.cell 2
  have f2 := HV.out.2.frozen 2
  have z3 := HV.out.2.cell 3
  have f3 := HV.out.2.frozen 3
  have z4 := HV.out.2.cell 4
  have f4 := HV.out.2.frozen 4
  have z5 := HV.out.2.cell 5
  have f5 := HV.out.2.frozen 5
  have z6 := HV.out.2.cell 6
  have f6 := HV.out.2.frozen 6
  have z7 := HV.out.2.cell 7
  have f7 := HV.out.2.frozen 7
  by_cases he : e2 xs = 0
  · obtain ⟨n22, nx, t1, t2, hrit⟩ := good_is he
    have h1 := e2_one he
    obtain ⟨ha, ht⟩ := HAA.out he
    obtain ⟨a7, _, hs7⟩ := HK7.out
    have hs := (hs7 h1).2
    rw [← hs, ← ht] at hrit
    have hks : s.size ≤ maxLen := by rw [hs]; have := tx_size xs 22 48; unfold maxLen; omega
    have hkt : t.size ≤ maxLen := by rw [ht]; have := tx_size xs (ti xs 22 48) 64; unfold maxLen; omega
    have HRIT := Lib.hid hrit
    rw [he] at c2
    have HT1 := Lib.hid t1
    have HT2 := Lib.hid t2
    have HNX := Lib.hid nx
    have HHA := Lib.hid ha
    have hz : ((0 : Int) != 0) = false := rfl
    clear hrit h1 hs7 hs ht ha t1 t2 nx he HAA HK7
    by_cases hq : a = n
    · have hq2 : (a != (n : Int)) = false := by simp [hq]
      have M := Lib.hid (fun w => may_calls (rit xs s t) w hks hkt)
      have HQ : Hid (¬ ti xs (ti xs 22 48) 64 ≠ xs.length) := Lib.hid (by rw [← HHA.out, hl]; exact fun h => h hq)
      clear hq hks hkt
      clear z0 f0 z1 f1 z2 f2 z3 f3 z4 f4 z5 f5 z6 f6 z7 f7
      have y0 : V.cell? ⟨w8.heap.size, 0, none⟩ = some (.int .u64 (ex xs 0 8)) := HX.out.cell 0
      have y1 : V.cell? ⟨w8.heap.size, 1, none⟩ = some (.int .u64 (ex xs 8 8)) := HX.out.cell 1
      have y2 : V.cell? ⟨w8.heap.size, 2, none⟩ = some (.int .i64 (ex xs 16 1)) := HX.out.cell 2
      have y3 : V.cell? ⟨w8.heap.size, 3, none⟩ = some (.int .i64 (ex xs 17 1)) := HX.out.cell 3
      have y4 : V.cell? ⟨w8.heap.size, 4, none⟩ = some (.complex .f64 (gre (ex xs 18 1) (ex xs 19 1) (ex xs 20 1)) (gim (ex xs 18 1) (ex xs 19 1) (ex xs 20 1))) := HX.out.cell 4
      have y5 : V.cell? ⟨w8.heap.size, 5, none⟩ = some (.bool (ex xs 21 1 == 1)) := HX.out.cell 5
      have y6 : V.cell? ⟨w8.heap.size, 6, none⟩ = some (.string s) := HX.out.cell 6
      have y7 : V.cell? ⟨w8.heap.size, 7, none⟩ = some (.string t) := HX.out.cell 7
      go_wp2_with fail
      refine (M.out _).mono ?_
      rw [HRIT.out]
      rintro e w9 ⟨rfl, hb9⟩
      have HV9 : Hid (Below w.heap.size w w9 ∧ Blk w9 w.heap.size zer 47) := Lib.hid ⟨keeps HV.out.1 hb9, HV.out.2.below hb9⟩
      have HX9 := Lib.hid (HX.out.below hb9)
      clear hb9 y0 y1 y2 y3 y4 y5 y6 y7
      have z0 := HV9.out.2.cell 0
      have f0 := HV9.out.2.frozen 0
      have z1 := HV9.out.2.cell 1
      have f1 := HV9.out.2.frozen 1
      have z2 := HV9.out.2.cell 2
      have f2 := HV9.out.2.frozen 2
      have z3 := HV9.out.2.cell 3
      have f3 := HV9.out.2.frozen 3
      have z4 := HV9.out.2.cell 4
      have f4 := HV9.out.2.frozen 4
      have z5 := HV9.out.2.cell 5
      have f5 := HV9.out.2.frozen 5
      have z6 := HV9.out.2.cell 6
      have f6 := HV9.out.2.frozen 6
      have z7 := HV9.out.2.cell 7
      have f7 := HV9.out.2.frozen 7
      cases hm : may (gitem xs) with
      | false =>
        obtain ⟨g1, g2⟩ := ge_arg n22 (by have := HNX.out; omega) (by rw [HT1.out]; simp) (by rw [HT2.out]; simp) HQ.out hm
        have HG1 := Lib.hid g1
        have HG2 := Lib.hid g2
        clear g1 g2 hm
        go_wp2_with fail
        obtain ⟨hB, hG⟩ := zer8 w9 w.heap.size 0 0 0 0 0 0 false ⟨#[]⟩ ⟨#[]⟩ HV9.out.2
        refine bodyPost_ret (v := .tuple #[.agg zer, .int .i64 1]) (results_cell_tmp_row (fn := Tryd.f26) rfl _ _ w.heap.size 47 zer (0, 0) _ rfl hB Tryd.underlying47 rfl info_item) rfl ⟨by rw [HG1.out, HG2.out], ?_⟩
        exact HV9.out.1.grown hG HV9.out.1.size (by intro k hk; injection hk with hk; omega)
      | true =>
        obtain ⟨g1, g2⟩ := ge_ok n22 (by have := HNX.out; omega) (by rw [HT1.out]; simp) (by rw [HT2.out]; simp) HQ.out hm
        have HG1 := Lib.hid g1
        have HG2 := Lib.hid g2
        clear g1 g2 hm
        have y0 : w9.cell? ⟨w8.heap.size, 0, none⟩ = some (.int .u64 (ex xs 0 8)) := HX9.out.cell 0
        have y1 : w9.cell? ⟨w8.heap.size, 1, none⟩ = some (.int .u64 (ex xs 8 8)) := HX9.out.cell 1
        have y2 : w9.cell? ⟨w8.heap.size, 2, none⟩ = some (.int .i64 (ex xs 16 1)) := HX9.out.cell 2
        have y3 : w9.cell? ⟨w8.heap.size, 3, none⟩ = some (.int .i64 (ex xs 17 1)) := HX9.out.cell 3
        have y4 : w9.cell? ⟨w8.heap.size, 4, none⟩ = some (.complex .f64 (gre (ex xs 18 1) (ex xs 19 1) (ex xs 20 1)) (gim (ex xs 18 1) (ex xs 19 1) (ex xs 20 1))) := HX9.out.cell 4
        have y5 : w9.cell? ⟨w8.heap.size, 5, none⟩ = some (.bool (ex xs 21 1 == 1)) := HX9.out.cell 5
        have y6 : w9.cell? ⟨w8.heap.size, 6, none⟩ = some (.string s) := HX9.out.cell 6
        have y7 : w9.cell? ⟨w8.heap.size, 7, none⟩ = some (.string t) := HX9.out.cell 7
        go_wp2_with fail
        obtain ⟨hB, hG⟩ := zer8 w9 w.heap.size (ex xs 0 8) (ex xs 8 8) (ex xs 16 1) (ex xs 17 1) (gre (ex xs 18 1) (ex xs 19 1) (ex xs 20 1)) (gim (ex xs 18 1) (ex xs 19 1) (ex xs 20 1)) (ex xs 21 1 == 1) s t HV9.out.2
        refine bodyPost_ret (v := .tuple #[.agg (cells (rit xs s t)), .int .i64 0]) (results_cell_tmp_row (fn := Tryd.f26) rfl _ _ w.heap.size 47 (cells (rit xs s t)) (0, 0) _ rfl hB Tryd.underlying47 rfl info_item) rfl ⟨by rw [HG1.out, HG2.out, ← HRIT.out], ?_⟩
        exact HV9.out.1.grown hG HV9.out.1.size (by intro k hk; injection hk with hk; omega)
    · have hq2 : (a != (n : Int)) = true := by rw [bne_iff_ne]; exact hq
      obtain ⟨g1, g2⟩ := ge_left n22 (by have := HNX.out; omega) (by rw [HT1.out]; simp) (by rw [HT2.out]; simp) (by rw [← HHA.out, hl]; exact hq)
      have HG1 := Lib.hid g1
      have HG2 := Lib.hid g2
      clear g1 g2 hq
      go_wp2_with fail
      obtain ⟨hB, hG⟩ := zer8 V w.heap.size 0 0 0 0 0 0 false ⟨#[]⟩ ⟨#[]⟩ HV.out.2
      refine bodyPost_ret (v := .tuple #[.agg zer, .int .i64 2]) (results_cell_tmp_row (fn := Tryd.f26) rfl _ _ w.heap.size 47 zer (0, 0) _ rfl hB Tryd.underlying47 rfl info_item) rfl ⟨by rw [HG1.out, HG2.out], ?_⟩
      exact HV.out.1.grown hG HV.out.1.size (by intro k hk; injection hk with hk; omega)
  · have hz : (e2 xs != 0) = true := by rw [bne_iff_ne]; exact he
    obtain ⟨g1, g2⟩ := bad_is he
    have HG1 := Lib.hid g1
    have HG2 := Lib.hid g2
    clear g1 g2 he
    generalize e2 xs = er at *
    go_wp2_with fail
    go_region_law (fail)
    all_goals go_wp2_with fail
    all_goals
      obtain ⟨hB, hG⟩ := zer8 V w.heap.size 0 0 0 0 0 0 false ⟨#[]⟩ ⟨#[]⟩ HV.out.2
      refine bodyPost_ret (v := .tuple #[.agg zer, .int .i64 er]) (results_cell_tmp_row (fn := Tryd.f26) rfl _ _ w.heap.size 47 zer (0, 0) _ rfl hB.drew Tryd.underlying47 rfl info_item) rfl ⟨by rw [HG1.out, HG2.out], ?_⟩
      exact (HV.out.1.grown hG HV.out.1.size (by intro k hk; injection hk with hk; omega)).drew
end Go.Proofs.YthbafcihmcjchaaDoor.RingGq
