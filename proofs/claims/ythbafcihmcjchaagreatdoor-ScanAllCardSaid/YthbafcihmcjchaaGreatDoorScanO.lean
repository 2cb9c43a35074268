/- The contract of the document's Of of layer 8. -/
import Derived.Test.YthbafcihmcjchaaGreatDoorScanM
import Derived.Test.YthbafcihmcjchaaGreatDoorRingS
import Derived.Test.YthbafcihmcjchaaGreatDoorRingG
import Derived.Test.YthbafcihmcjchaaGreatDoorRecY
import Derived.Test.YthbafcihmcjchaaGreatDoorHeadR
import Derived.Test.YthbafcihmcjchaaGreatDoorPlaceH
import Derived.Deep.RegionHeld3
import Derived.Deep.AppendLies
import Derived.Deep.Onto
import Derived.Deep.RegionLaw
import Derived.BigRegion
import Derived.IntWalk
namespace Go.Proofs.YthbafcihmcjchaaGreatDoor.ScanO
set_option linter.unusedVariables false
set_option linter.unusedSimpArgs false
open Go.RowKit
open Go.Proofs.YthbafcihmcjchaaGreatDoor.Byte Go.Proofs.YthbafcihmcjchaaGreatDoor.PlaceM Go.Proofs.YthbafcihmcjchaaGreatDoor.PlaceV Go.Proofs.YthbafcihmcjchaaGreatDoor.RecM Go.Proofs.YthbafcihmcjchaaGreatDoor.RecX Go.Proofs.YthbafcihmcjchaaGreatDoor.RingM Go.Proofs.YthbafcihmcjchaaGreatDoor.RingN Go.Proofs.YthbafcihmcjchaaGreatDoor.RingC Go.Proofs.YthbafcihmcjchaaGreatDoor.RingK Go.Proofs.YthbafcihmcjchaaGreatDoor.RingF Go.Proofs.YthbafcihmcjchaaGreatDoor.RingS Go.Proofs.YthbafcihmcjchaaGreatDoor.ScanM Go.Proofs.YthbafcihmcjchaaGreatDoor.Own

attribute [local go_sem] Own.run_store_complex
theorem info_sec : (Tryz.prog.info? 54).map (·.size) = some 4 := by kernel_rfl
theorem blk2 (w : World) (x y : Array Value) (t u : TypeId) : Blk ((w.alloc (.cells x t)).alloc (.cells y u)) (w.heap.size + 1) y u ∧ Below w.heap.size w ((w.alloc (.cells x t)).alloc (.cells y u)) ∧ ((w.alloc (.cells x t)).alloc (.cells y u)).heap.size = w.heap.size + 2 := by
  refine ⟨?_, ((Below.refl _ _).alloc (Nat.le_refl _) _).alloc (by simp) _, by simp⟩
  have := Blk.new_ (w.alloc (.cells x t)) y u
  simpa using this
theorem cls_three (n z : Int) (xs : List Int) : HeadM.cls n z xs = 0 ∨ HeadM.cls n z xs = 1 ∨ HeadM.cls n z xs = 2 := by
  unfold HeadM.cls
  repeat' split
  all_goals simp
theorem live_len {n z : Int} {xs : List Int} (h : HeadM.cls n z xs = 1) : 8 ≤ xs.length := by
  unfold HeadM.cls at h
  split at h
  · omega
  · rename_i h1
    have h2 : MayM.may n z = true := by cases e : MayM.may n z with | true => rfl | false => exact absurd (.inl e) h1
    have h3 : (xs.length : Int) = z := Classical.byContradiction fun e => h1 (.inr e)
    have := MayM.may_yes h2
    omega
theorem grown_set (w : World) (g i : Nat) (v : Value) : w.grownBy (w.setCell ⟨g, i, none⟩ v) (some g) :=
  ⟨rfl, rfl, rfl, by rw [World.size_setCell]; exact Nat.le_refl _, fun k _ hne => Below.heap_setCell w _ v k (fun e => hne (by rw [e]))⟩
theorem blk_grown {W W' : World} {b : Nat} {o : Option Nat} {cs : Array Value} {t : TypeId} (h : Blk W b cs t) (hg : W.grownBy W' o) (hne : o ≠ some b) : Blk W' b cs t := (hg.block b h.lt (fun e => hne e.symm)).trans h
theorem own_slice {w : World} {base n size : Nat} {e : TypeId} {v : Value} {xs : List Value} (h : w.ownsRow base e size v n xs) : ∃ D N p, v = .slice D N p := by
  rcases h.2 with ⟨h1, _⟩ | ⟨g, cap, cur, h1, _⟩
  · exact ⟨_, _, _, h1⟩
  · exact ⟨_, _, _, h1⟩
theorem own_not {w : World} {base n size b : Nat} {e : TypeId} {v : Value} {xs : List Value} (h : w.ownsRow base e size v n xs) (hb : b < base) : v.ownBlock = none ∨ v.ownBlock ≠ some b := by
  cases hv : v.ownBlock with
  | none => exact .inl rfl
  | some g => exact .inr (fun e => by injection e with e; have := (h.lt g hv).1; omega)
theorem cs_five (xs : List Int) (a : Int) : cs xs a = 0 ∨ cs xs a = 3 ∨ cs xs a = 6 ∨ cs xs a = 4 ∨ cs xs a = 5 := by
  unfold cs
  repeat' split
  · simp
  · simp
  · rcases stOf_bd (xs.getD a.toNat 0) with h | h | h | h <;> rw [h] <;> simp
  · simp
theorem cr_len (xs : List Int) (a : Int) : (cr xs a).length ≤ xs.length := by
  unfold cr
  split
  · simp
  · unfold rec_
    rw [List.length_take, List.length_drop]
    omega
theorem sc_few (xs : List Int) (k : Int) (a : Nat) : (sc xs k a).1.length ≤ xs.length - a := by
  generalize hn : xs.length - a = n
  induction n using Nat.strongRecOn generalizing a with
  | ind n ih =>
    cases ho : on xs a with
    | false =>
      rw [sc_off ho]
      exact Nat.zero_le _
    | true =>
      obtain ⟨r, he, hl, hr⟩ := on_end ho
      have h1 := ih (xs.length - (a + 8 + r)) (by omega) (a + 8 + r) rfl
      rcases on_cases ho with h | ⟨h, hg⟩
      · rw [sc_skip h he]
        omega
      · rw [sc_one h hg he, List.length_cons]
        omega
/-- A sector, as it is answered. -/
def SecE (c e : Int) (f : Bool) (L : List Fnd) (w : World) (en : Ending) (w' : World) : Prop :=
  ∃ v, en = .returned (.agg #[.int .i64 c, .int .i64 e, .bool f, v]) ∧ w'.ownsRow w.heap.size 103 11 v L.length (flat L) ∧ Below w.heap.size w w'
set_option maxRecDepth 100000 in
set_option maxHeartbeats 4000000 in
theorem refof_calls (n z : Int) (A : Option Addr) (m c k : Nat) (xs : List Int) (w : World) (hb : Bs w A m xs) (hc : m ≤ c) (hm : m ≤ 1000000) (hk : k ≤ 1000000) :
    Calls Tryz.prog 16 #[.agg #[.int .i64 n, .int .i64 z], .int .i64 k, .slice A m c] w (SecE (cl n z xs) (en n z xs k) (fu n z xs k) (fo n z xs k) w) := by
  have HB := Lib.hid hb
  clear hb
  have RC := Lib.hid (fun w hb => HeadR.refclass_calls n z A m c xs w hb hc)
  have CL := Lib.hid (fun (a : Nat) w hb => RecY.class_calls A m c xs a w hb (by omega) hc)
  obtain ⟨cc, hcc⟩ : ∃ cc, HeadM.cls n z xs = cc := ⟨_, rfl⟩
  rw [hcc] at RC
  have hcl : cl n z xs = cc := hcc
  obtain ⟨en0, hen⟩ : ∃ x, en n z xs k = x := ⟨_, rfl⟩
  obtain ⟨fu0, hfu⟩ : ∃ x, fu n z xs k = x := ⟨_, rfl⟩
  obtain ⟨fo0, hfo⟩ : ∃ x, fo n z xs k = x := ⟨_, rfl⟩
  rw [hcl, hen, hfu, hfo]
  go_enter Tryz.func16, Tryz.ntmps16
  go_wp2_with fail
  obtain ⟨hR, hW0, hz0⟩ := blk2 w #[.int .i64 n, .int .i64 z] #[.int .i64 0, .int .i64 0, .bool false, .slice none 0 0] 28 54
  obtain ⟨W0, hW⟩ : ∃ W0, (w.alloc (.cells #[.int .i64 n, .int .i64 z] 28)).alloc (.cells #[.int .i64 0, .int .i64 0, .bool false, .slice none 0 0] 54) = W0 := ⟨_, rfl⟩
  rw [hW] at hR hW0 hz0 ⊢
  clear hW
  refine (RC.out _ (HB.out.below hW0)).mono ?_
  rintro e w1 ⟨rfl, hb1⟩
  have HR1 := Lib.hid (hR.below hb1)
  have HW1 := Lib.hid (keeps hW0 hb1)
  have hz1 := hb1.size
  rw [hz0] at hz1
  clear hR hW0 hz0 hb1
  have hrl : w.heap.size + 1 < w1.heap.size := by omega
  rcases (show cc = 0 ∨ cc = 2 ∨ cc = 1 by rw [← hcc]; rcases cls_three n z xs with h | h | h <;> simp [h]) with h | h | h
  · subst h
    obtain rfl : en0 = 0 := by rw [← hen]; unfold en; rw [hcl]; rfl
    obtain rfl : fu0 = false := by rw [← hfu]; unfold fu; rw [hcl]; rfl
    obtain rfl : fo0 = [] := by rw [← hfo]; unfold fo; rw [hcl]; rfl
    clear hen hfu hfo hcl hcc
    have hT0 := Blk.new_ w1 #[.int .i64 0, .int .i64 0, .bool false, .slice none 0 0] 54
    have hbT0 : Below w1.heap.size w1 (w1.alloc (.cells #[.int .i64 0, .int .i64 0, .bool false, .slice none 0 0] 54)) := (Below.refl _ _).alloc (Nat.le_refl _) _
    have hT := hT0
    have hbT := hbT0
    have HT := Lib.hid hT
    have HRT := Lib.hid (HR1.out.below hbT)
    have HWT := Lib.hid (keeps HW1.out hbT)
    clear hT hbT hT0 hbT0
    go_wp2_with (first
      | ((with_reducible refine pick (some 25) ?_); refine load_blk rfl 54 (.tmp 7) rfl w1.heap.size rfl 54 #[.int .i64 0, .int .i64 0, .bool false, .slice none 0 0] _ HT.out Tryz.underlying54 rfl info_sec ?_)
      | ((with_reducible refine pick none ?_); refine store_blk rfl 54 (.tmp 6) _ rfl (w.heap.size + 1) #[.int .i64 0, .int .i64 0, .bool false, .slice none 0 0] rfl rfl 54 _ HRT.out info_sec rfl (by simp [Value.oneCell']) ?_; intro w2 hB2 hg2; have hW2 := HWT.out.grown hg2 HWT.out.size (by intro k hk; injection hk with hk; omega)))
    refine bodyPost_ret (v := .agg #[.int .i64 0, .int .i64 0, .bool false, .slice none 0 0]) (results_cell_row rfl _ _ (w.heap.size + 1) 54 _ (0, 0) _ rfl hB2 Tryz.underlying54 rfl info_sec) rfl ?_
    exact ⟨.slice none 0 0, rfl, World.ownsRow_nil _ _ _ _, hW2⟩
  · subst h
    obtain rfl : en0 = 0 := by rw [← hen]; unfold en; rw [hcl]; rfl
    obtain rfl : fu0 = true := by rw [← hfu]; unfold fu; rw [hcl]; rfl
    obtain rfl : fo0 = [] := by rw [← hfo]; unfold fo; rw [hcl]; rfl
    clear hen hfu hfo hcl hcc
    have hT0 := Blk.new_ w1 #[.int .i64 2, .int .i64 0, .bool true, .slice none 0 0] 54
    have hbT0 : Below w1.heap.size w1 (w1.alloc (.cells #[.int .i64 2, .int .i64 0, .bool true, .slice none 0 0] 54)) := (Below.refl _ _).alloc (Nat.le_refl _) _
    have hT := hT0
    have hbT := hbT0
    have HT := Lib.hid hT
    have HRT := Lib.hid (HR1.out.below hbT)
    have HWT := Lib.hid (keeps HW1.out hbT)
    clear hT hbT hT0 hbT0
    go_wp2_with (first
      | ((with_reducible refine pick (some 25) ?_); refine load_blk rfl 54 (.tmp 7) rfl w1.heap.size rfl 54 #[.int .i64 2, .int .i64 0, .bool true, .slice none 0 0] _ HT.out Tryz.underlying54 rfl info_sec ?_)
      | ((with_reducible refine pick none ?_); refine store_blk rfl 54 (.tmp 6) _ rfl (w.heap.size + 1) #[.int .i64 2, .int .i64 0, .bool true, .slice none 0 0] rfl rfl 54 _ HRT.out info_sec rfl (by simp [Value.oneCell']) ?_; intro w2 hB2 hg2; have hW2 := HWT.out.grown hg2 HWT.out.size (by intro k hk; injection hk with hk; omega)))
    refine bodyPost_ret (v := .agg #[.int .i64 2, .int .i64 0, .bool true, .slice none 0 0]) (results_cell_row rfl _ _ (w.heap.size + 1) 54 _ (0, 0) _ rfl hB2 Tryz.underlying54 rfl info_sec) rfl ?_
    exact ⟨.slice none 0 0, rfl, World.ownsRow_nil _ _ _ _, hW2⟩
  -- loop
  · subst h
    have h8 : 8 ≤ m := by rw [← HB.out.len]; exact live_len hcc
    have HEN : Hid (en0 = (sc xs k 8).2.1 ∧ fu0 = (sc xs k 8).2.2 ∧ fo0 = (sc xs k 8).1) := Lib.hid ⟨by rw [← hen]; unfold en; rw [hcl]; rfl, by rw [← hfu]; unfold fu; rw [hcl]; rfl, by rw [← hfo]; unfold fo; rw [hcl]; rfl⟩
    clear hen hfu hfo hcl hcc
    have hT := Blk.new_ w1 #[.int .i64 1, .int .i64 0, .bool false, .slice none 0 0] 54
    have hbT : Below w1.heap.size w1 (w1.alloc (.cells #[.int .i64 1, .int .i64 0, .bool false, .slice none 0 0] 54)) := (Below.refl _ _).alloc (Nat.le_refl _) _
    have HT := Lib.hid hT
    have HRT := Lib.hid (HR1.out.below hbT)
    have HWT := Lib.hid (keeps HW1.out hbT)
    have hlT := hT.lt
    clear hT hbT
    obtain ⟨j0, hjx, hy0, hy1, hy2⟩ := info_parts info_found
    go_wp2_with fail
    go_loopw [8] (fun i wr => ∃ (a : Nat) (L1 : List Fnd) (v : Value), a ≤ m ∧ i = .int .i64 a ∧ Blk wr w1.heap.size #[.int .i64 1, .int .i64 0, .bool false, v] 54 ∧ Blk wr (w.heap.size + 1) #[.int .i64 0, .int .i64 0, .bool false, .slice none 0 0] 54 ∧ wr.ownsRow (w1.heap.size + 1) 103 11 v L1.length (flat L1) ∧ Hid (L1 ++ (sc xs k a).1 = (sc xs k 8).1 ∧ (sc xs k a).2 = (sc xs k 8).2) ∧ Below w.heap.size w wr) (fun i _ => m - (intOf i).toNat)
    case atStart => exact ⟨8, [], _, h8, rfl, HT.out, HRT.out, World.ownsRow_nil _ _ _ _, Lib.hid ⟨rfl, rfl⟩, HWT.out⟩
    case round =>
      obtain ⟨a, L1, v, ha, rfl, hT, hR, hrow, HSC, hbel⟩ := hrel
      have HT := Lib.hid hT
      have HR := Lib.hid hR
      have HRW := Lib.hid hrow
      have HBL := Lib.hid hbel
      have hvs : ∃ D N p, v = .slice D N p := own_slice hrow
      have hL1 : L1.length ≤ m := by
        have := congrArg List.length HSC.out.1
        rw [List.length_append] at this
        have h2 := sc_few xs k 8
        rw [HB.out.len] at h2
        omega
      clear hT hR hrow hbel
      obtain ⟨D, N, p, rfl⟩ := hvs
      obtain ⟨s, hs⟩ : ∃ s, cs xs a = s := ⟨_, rfl⟩
      obtain ⟨r, hr⟩ : ∃ r, cr xs a = r := ⟨_, rfl⟩
      obtain ⟨q, hq⟩ : ∃ q, ce xs a = q := ⟨_, rfl⟩
      obtain ⟨x, hx⟩ : ∃ x, gans r = x := ⟨_, rfl⟩
      obtain ⟨g, hg⟩ : ∃ g, gerr r = g := ⟨_, rfl⟩
      have hs5 : s = 0 ∨ s = 3 ∨ s = 6 ∨ s = 4 ∨ s = 5 := by rw [← hs]; exact cs_five xs a
      have hrl : r.length ≤ 140737488355328 := by rw [← hr]; exact Nat.le_trans (cr_len xs a) (by rw [HB.out.len]; omega)
      have CA := Lib.hid (CL.out a wr (HB.out.below HBL.out))
      rw [hs, hr, hq] at CA
      go_wp2_with fail
      refine CA.out.mono ?_
      rintro e w2 ⟨A2, c2, rfl, hbs2, _, _, hb2⟩
      have HBS := Lib.hid hbs2
      have HB2 := Lib.hid hb2
      clear hbs2 hb2
      have GA := Lib.hid (RingG.refget_item A2 r.length c2 r w2 HBS.out hrl)
      rw [hx, hg] at GA
      obtain ⟨seq, ver, index, count, re, im, gone, key, value⟩ := x
      go_wp2_with fail
      refine GA.out.mono ?_
      rintro e w3 ⟨rfl, hb3⟩
      have hb4 : Below wr.heap.size wr (w3.alloc (.cells #[.int .u64 seq, .int .u64 ver, .int .i64 index, .int .i64 count, .complex .f64 re im, .bool gone, .string key, .string value] 99)) := (HB2.out.trans (hb3.mono HB2.out.size)).alloc (HB2.out.trans (hb3.mono HB2.out.size)).size _
      have hA4 := Blk.new_ w3 #[.int .u64 seq, .int .u64 ver, .int .i64 index, .int .i64 count, .complex .f64 re im, .bool gone, .string key, .string value] 99
      have hw3 : wr.heap.size ≤ w3.heap.size := Nat.le_trans HB2.out.size hb3.size
      obtain ⟨V, hV⟩ : ∃ V, w3.alloc (.cells #[.int .u64 seq, .int .u64 ver, .int .i64 index, .int .i64 count, .complex .f64 re im, .bool gone, .string key, .string value] 99) = V := ⟨_, rfl⟩
      rw [hV] at hb4 hA4
      have hT4 := HT.out.below hb4
      have HT4 := Lib.hid hT4
      have HR4 := Lib.hid (HR.out.below hb4)
      have HW4 := Lib.hid (keeps HBL.out hb4)
      have HRW4 := Lib.hid (RingF.own_below HRW.out hb4)
      have HA4 := Lib.hid hA4
      have hTl := HT.out.lt
      have hVl := hA4.lt
      have HV := Lib.hid hV
      clear hb4 hb3
      rcases hs5 with h5 | h5 | h5 | h5 | h5
      · subst h5
        have ho : on xs a = false := by unfold on; rw [hs, hr]; rfl
        have HSO := Lib.hid (sc_off (k := k) ho)
        rw [hs] at HSO
        by_cases ham : a = m
        · subst ham
          have d : ((a : Int) == (a : Int)) = true := by simp
          have c1 : V.cell? ⟨w1.heap.size, 1, none⟩ = some (.int .i64 0) := hT4.cell 1
          have f1 : V.frozen? ⟨w1.heap.size, 1, none⟩ = false := hT4.frozen 1
          have c2 : V.cell? ⟨w1.heap.size, 2, none⟩ = some (.bool false) := hT4.cell 2
          have f2 : V.frozen? ⟨w1.heap.size, 2, none⟩ = false := hT4.frozen 2
          have hS : Blk ((V.setCell ⟨w1.heap.size, 1, none⟩ (.int .i64 a)).setCell ⟨w1.heap.size, 2, none⟩ (.bool true)) w1.heap.size #[.int .i64 1, .int .i64 a, .bool true, .slice D N p] 54 := by simpa using (HT4.out.set_ 1 (.int .i64 a)).set_ 2 (.bool true)
          have hgr : V.grownBy ((V.setCell ⟨w1.heap.size, 1, none⟩ (.int .i64 a)).setCell ⟨w1.heap.size, 2, none⟩ (.bool true)) (some w1.heap.size) := (grown_set _ _ _ _).trans (grown_set _ _ _ _)
          have HS := Lib.hid hS
          have HSR := Lib.hid (HR4.out.grown hgr (by omega))
          have HSW := Lib.hid (HW4.out.grown hgr HW4.out.size (by intro k hk; injection hk with hk; omega))
          have HSO2 := Lib.hid (HRW4.out.kept hgr (own_not HRW4.out (by omega)))
          clear hS hgr hT4 hA4
          subst hV
          go_wp2_with (first
            | ((with_reducible refine pick (some 63) ?_); refine load_blk rfl 54 (.tmp 7) rfl w1.heap.size rfl 54 #[.int .i64 1, .int .i64 a, .bool true, .slice D N p] _ HS.out Tryz.underlying54 rfl info_sec ?_)
            | ((with_reducible refine pick none ?_); refine store_blk rfl 54 (.tmp 6) _ rfl (w.heap.size + 1) #[.int .i64 1, .int .i64 a, .bool true, .slice D N p] rfl rfl 54 _ HSR.out info_sec rfl (by simp [Value.oneCell']) ?_; intro w6 hB6 hg6; have hW6 := HSW.out.grown hg6 HSW.out.size (by intro k hk; injection hk with hk; omega); have hO6 := HSO2.out.kept hg6 (own_not HSO2.out (by omega))))
          refine bodyPost_ret (v := .agg #[.int .i64 1, .int .i64 a, .bool true, .slice D N p]) (results_cell_row rfl _ _ (w.heap.size + 1) 54 _ (0, 0) _ rfl hB6 Tryz.underlying54 rfl info_sec) rfl ?_
          obtain ⟨z1, z2⟩ := HSC.out
          rw [HSO.out] at z1 z2
          rw [HEN.out.1, HEN.out.2.1, HEN.out.2.2, ← z1, ← z2, List.append_nil]
          exact ⟨.slice D N p, by simp [HB.out.len], hO6.mono (by omega), hW6⟩
        · have d : ((a : Int) == (m : Int)) = false := by rw [beq_eq_false_iff_ne]; omega
          have c1 : V.cell? ⟨w1.heap.size, 1, none⟩ = some (.int .i64 0) := hT4.cell 1
          have f1 : V.frozen? ⟨w1.heap.size, 1, none⟩ = false := hT4.frozen 1
          have c2 : V.cell? ⟨w1.heap.size, 2, none⟩ = some (.bool false) := hT4.cell 2
          have f2 : V.frozen? ⟨w1.heap.size, 2, none⟩ = false := hT4.frozen 2
          have hS : Blk ((V.setCell ⟨w1.heap.size, 1, none⟩ (.int .i64 a)).setCell ⟨w1.heap.size, 2, none⟩ (.bool false)) w1.heap.size #[.int .i64 1, .int .i64 a, .bool false, .slice D N p] 54 := by simpa using (HT4.out.set_ 1 (.int .i64 a)).set_ 2 (.bool false)
          have hgr : V.grownBy ((V.setCell ⟨w1.heap.size, 1, none⟩ (.int .i64 a)).setCell ⟨w1.heap.size, 2, none⟩ (.bool false)) (some w1.heap.size) := (grown_set _ _ _ _).trans (grown_set _ _ _ _)
          have HS := Lib.hid hS
          have HSR := Lib.hid (HR4.out.grown hgr (by omega))
          have HSW := Lib.hid (HW4.out.grown hgr HW4.out.size (by intro k hk; injection hk with hk; omega))
          have HSO2 := Lib.hid (HRW4.out.kept hgr (own_not HRW4.out (by omega)))
          clear hS hgr hT4 hA4
          subst hV
          go_wp2_with (first
            | ((with_reducible refine pick (some 63) ?_); refine load_blk rfl 54 (.tmp 7) rfl w1.heap.size rfl 54 #[.int .i64 1, .int .i64 a, .bool false, .slice D N p] _ HS.out Tryz.underlying54 rfl info_sec ?_)
            | ((with_reducible refine pick none ?_); refine store_blk rfl 54 (.tmp 6) _ rfl (w.heap.size + 1) #[.int .i64 1, .int .i64 a, .bool false, .slice D N p] rfl rfl 54 _ HSR.out info_sec rfl (by simp [Value.oneCell']) ?_; intro w6 hB6 hg6; have hW6 := HSW.out.grown hg6 HSW.out.size (by intro k hk; injection hk with hk; omega); have hO6 := HSO2.out.kept hg6 (own_not HSO2.out (by omega))))
          refine bodyPost_ret (v := .agg #[.int .i64 1, .int .i64 a, .bool false, .slice D N p]) (results_cell_row rfl _ _ (w.heap.size + 1) 54 _ (0, 0) _ rfl hB6 Tryz.underlying54 rfl info_sec) rfl ?_
          obtain ⟨z1, z2⟩ := HSC.out
          rw [HSO.out] at z1 z2
          rw [HEN.out.1, HEN.out.2.1, HEN.out.2.2, ← z1, ← z2, List.append_nil]
          exact ⟨.slice D N p, by simp [ham, HB.out.len], hO6.mono (by omega), hW6⟩
      · subst h5
        have ho : on xs a = false := by unfold on; rw [hs, hr]; rfl
        have HSO := Lib.hid (sc_off (k := k) ho)
        rw [hs] at HSO
        by_cases ham : a = m
        · subst ham
          have d : ((a : Int) == (a : Int)) = true := by simp
          have c1 : V.cell? ⟨w1.heap.size, 1, none⟩ = some (.int .i64 0) := hT4.cell 1
          have f1 : V.frozen? ⟨w1.heap.size, 1, none⟩ = false := hT4.frozen 1
          have c2 : V.cell? ⟨w1.heap.size, 2, none⟩ = some (.bool false) := hT4.cell 2
          have f2 : V.frozen? ⟨w1.heap.size, 2, none⟩ = false := hT4.frozen 2
          have hS : Blk ((V.setCell ⟨w1.heap.size, 1, none⟩ (.int .i64 a)).setCell ⟨w1.heap.size, 2, none⟩ (.bool true)) w1.heap.size #[.int .i64 1, .int .i64 a, .bool true, .slice D N p] 54 := by simpa using (HT4.out.set_ 1 (.int .i64 a)).set_ 2 (.bool true)
          have hgr : V.grownBy ((V.setCell ⟨w1.heap.size, 1, none⟩ (.int .i64 a)).setCell ⟨w1.heap.size, 2, none⟩ (.bool true)) (some w1.heap.size) := (grown_set _ _ _ _).trans (grown_set _ _ _ _)
          have HS := Lib.hid hS
          have HSR := Lib.hid (HR4.out.grown hgr (by omega))
          have HSW := Lib.hid (HW4.out.grown hgr HW4.out.size (by intro k hk; injection hk with hk; omega))
          have HSO2 := Lib.hid (HRW4.out.kept hgr (own_not HRW4.out (by omega)))
          clear hS hgr hT4 hA4
          subst hV
          go_wp2_with (first
            | ((with_reducible refine pick (some 63) ?_); refine load_blk rfl 54 (.tmp 7) rfl w1.heap.size rfl 54 #[.int .i64 1, .int .i64 a, .bool true, .slice D N p] _ HS.out Tryz.underlying54 rfl info_sec ?_)
            | ((with_reducible refine pick none ?_); refine store_blk rfl 54 (.tmp 6) _ rfl (w.heap.size + 1) #[.int .i64 1, .int .i64 a, .bool true, .slice D N p] rfl rfl 54 _ HSR.out info_sec rfl (by simp [Value.oneCell']) ?_; intro w6 hB6 hg6; have hW6 := HSW.out.grown hg6 HSW.out.size (by intro k hk; injection hk with hk; omega); have hO6 := HSO2.out.kept hg6 (own_not HSO2.out (by omega))))
          refine bodyPost_ret (v := .agg #[.int .i64 1, .int .i64 a, .bool true, .slice D N p]) (results_cell_row rfl _ _ (w.heap.size + 1) 54 _ (0, 0) _ rfl hB6 Tryz.underlying54 rfl info_sec) rfl ?_
          obtain ⟨z1, z2⟩ := HSC.out
          rw [HSO.out] at z1 z2
          rw [HEN.out.1, HEN.out.2.1, HEN.out.2.2, ← z1, ← z2, List.append_nil]
          exact ⟨.slice D N p, by simp [HB.out.len], hO6.mono (by omega), hW6⟩
        · have d : ((a : Int) == (m : Int)) = false := by rw [beq_eq_false_iff_ne]; omega
          have c1 : V.cell? ⟨w1.heap.size, 1, none⟩ = some (.int .i64 0) := hT4.cell 1
          have f1 : V.frozen? ⟨w1.heap.size, 1, none⟩ = false := hT4.frozen 1
          have c2 : V.cell? ⟨w1.heap.size, 2, none⟩ = some (.bool false) := hT4.cell 2
          have f2 : V.frozen? ⟨w1.heap.size, 2, none⟩ = false := hT4.frozen 2
          have hS : Blk ((V.setCell ⟨w1.heap.size, 1, none⟩ (.int .i64 a)).setCell ⟨w1.heap.size, 2, none⟩ (.bool true)) w1.heap.size #[.int .i64 1, .int .i64 a, .bool true, .slice D N p] 54 := by simpa using (HT4.out.set_ 1 (.int .i64 a)).set_ 2 (.bool true)
          have hgr : V.grownBy ((V.setCell ⟨w1.heap.size, 1, none⟩ (.int .i64 a)).setCell ⟨w1.heap.size, 2, none⟩ (.bool true)) (some w1.heap.size) := (grown_set _ _ _ _).trans (grown_set _ _ _ _)
          have HS := Lib.hid hS
          have HSR := Lib.hid (HR4.out.grown hgr (by omega))
          have HSW := Lib.hid (HW4.out.grown hgr HW4.out.size (by intro k hk; injection hk with hk; omega))
          have HSO2 := Lib.hid (HRW4.out.kept hgr (own_not HRW4.out (by omega)))
          clear hS hgr hT4 hA4
          subst hV
          go_wp2_with (first
            | ((with_reducible refine pick (some 63) ?_); refine load_blk rfl 54 (.tmp 7) rfl w1.heap.size rfl 54 #[.int .i64 1, .int .i64 a, .bool true, .slice D N p] _ HS.out Tryz.underlying54 rfl info_sec ?_)
            | ((with_reducible refine pick none ?_); refine store_blk rfl 54 (.tmp 6) _ rfl (w.heap.size + 1) #[.int .i64 1, .int .i64 a, .bool true, .slice D N p] rfl rfl 54 _ HSR.out info_sec rfl (by simp [Value.oneCell']) ?_; intro w6 hB6 hg6; have hW6 := HSW.out.grown hg6 HSW.out.size (by intro k hk; injection hk with hk; omega); have hO6 := HSO2.out.kept hg6 (own_not HSO2.out (by omega))))
          refine bodyPost_ret (v := .agg #[.int .i64 1, .int .i64 a, .bool true, .slice D N p]) (results_cell_row rfl _ _ (w.heap.size + 1) 54 _ (0, 0) _ rfl hB6 Tryz.underlying54 rfl info_sec) rfl ?_
          obtain ⟨z1, z2⟩ := HSC.out
          rw [HSO.out] at z1 z2
          rw [HEN.out.1, HEN.out.2.1, HEN.out.2.2, ← z1, ← z2, List.append_nil]
          exact ⟨.slice D N p, by simp [ham, HB.out.len], hO6.mono (by omega), hW6⟩
      · subst h5
        obtain ⟨rl, he, hel, _⟩ := on_end (xs := xs) (a := a) (by unfold on; rw [hs]; rfl)
        rw [HB.out.len] at hel
        have hsk := sc_skip (k := k) hs he
        rw [he] at hq
        subst hq
        clear hT4 hA4
        subst hV
        go_wp2_with fail
        go_roundw
        case rel => exact ⟨a + 8 + rl, L1, _, hel, by first | rfl | (congr 1), HT4.out, HR4.out, HRW4.out, Lib.hid (by rw [← hsk]; exact HSC.out), HW4.out⟩
        case measure => simp [intOf]; omega
      · subst h5
        by_cases hg0 : g = 0
        rotate_left
        · skip
          have ho : on xs a = false := by unfold on; rw [hs, hr, hg]; simp; exact hg0
          have HSO := Lib.hid (sc_off (k := k) ho)
          rw [hs] at HSO
          by_cases ham : a = m
          · subst ham
            have d : ((a : Int) == (a : Int)) = true := by simp
            have dg : (g != 0) = true := by rw [bne_iff_ne]; exact hg0
            have c1 : V.cell? ⟨w1.heap.size, 1, none⟩ = some (.int .i64 0) := hT4.cell 1
            have f1 : V.frozen? ⟨w1.heap.size, 1, none⟩ = false := hT4.frozen 1
            have c2 : V.cell? ⟨w1.heap.size, 2, none⟩ = some (.bool false) := hT4.cell 2
            have f2 : V.frozen? ⟨w1.heap.size, 2, none⟩ = false := hT4.frozen 2
            have hS : Blk ((V.setCell ⟨w1.heap.size, 1, none⟩ (.int .i64 a)).setCell ⟨w1.heap.size, 2, none⟩ (.bool true)) w1.heap.size #[.int .i64 1, .int .i64 a, .bool true, .slice D N p] 54 := by simpa using (HT4.out.set_ 1 (.int .i64 a)).set_ 2 (.bool true)
            have hgr : V.grownBy ((V.setCell ⟨w1.heap.size, 1, none⟩ (.int .i64 a)).setCell ⟨w1.heap.size, 2, none⟩ (.bool true)) (some w1.heap.size) := (grown_set _ _ _ _).trans (grown_set _ _ _ _)
            have HS := Lib.hid hS
            have HSR := Lib.hid (HR4.out.grown hgr (by omega))
            have HSW := Lib.hid (HW4.out.grown hgr HW4.out.size (by intro k hk; injection hk with hk; omega))
            have HSO2 := Lib.hid (HRW4.out.kept hgr (own_not HRW4.out (by omega)))
            clear hS hgr hT4 hA4
            subst hV
            go_wp2_with (first
              | ((with_reducible refine pick (some 63) ?_); refine load_blk rfl 54 (.tmp 7) rfl w1.heap.size rfl 54 #[.int .i64 1, .int .i64 a, .bool true, .slice D N p] _ HS.out Tryz.underlying54 rfl info_sec ?_)
              | ((with_reducible refine pick none ?_); refine store_blk rfl 54 (.tmp 6) _ rfl (w.heap.size + 1) #[.int .i64 1, .int .i64 a, .bool true, .slice D N p] rfl rfl 54 _ HSR.out info_sec rfl (by simp [Value.oneCell']) ?_; intro w6 hB6 hg6; have hW6 := HSW.out.grown hg6 HSW.out.size (by intro k hk; injection hk with hk; omega); have hO6 := HSO2.out.kept hg6 (own_not HSO2.out (by omega))))
            refine bodyPost_ret (v := .agg #[.int .i64 1, .int .i64 a, .bool true, .slice D N p]) (results_cell_row rfl _ _ (w.heap.size + 1) 54 _ (0, 0) _ rfl hB6 Tryz.underlying54 rfl info_sec) rfl ?_
            obtain ⟨z1, z2⟩ := HSC.out
            rw [HSO.out] at z1 z2
            rw [HEN.out.1, HEN.out.2.1, HEN.out.2.2, ← z1, ← z2, List.append_nil]
            exact ⟨.slice D N p, by simp [HB.out.len], hO6.mono (by omega), hW6⟩
          · have d : ((a : Int) == (m : Int)) = false := by rw [beq_eq_false_iff_ne]; omega
            have dg : (g != 0) = true := by rw [bne_iff_ne]; exact hg0
            have c1 : V.cell? ⟨w1.heap.size, 1, none⟩ = some (.int .i64 0) := hT4.cell 1
            have f1 : V.frozen? ⟨w1.heap.size, 1, none⟩ = false := hT4.frozen 1
            have c2 : V.cell? ⟨w1.heap.size, 2, none⟩ = some (.bool false) := hT4.cell 2
            have f2 : V.frozen? ⟨w1.heap.size, 2, none⟩ = false := hT4.frozen 2
            have hS : Blk ((V.setCell ⟨w1.heap.size, 1, none⟩ (.int .i64 a)).setCell ⟨w1.heap.size, 2, none⟩ (.bool true)) w1.heap.size #[.int .i64 1, .int .i64 a, .bool true, .slice D N p] 54 := by simpa using (HT4.out.set_ 1 (.int .i64 a)).set_ 2 (.bool true)
            have hgr : V.grownBy ((V.setCell ⟨w1.heap.size, 1, none⟩ (.int .i64 a)).setCell ⟨w1.heap.size, 2, none⟩ (.bool true)) (some w1.heap.size) := (grown_set _ _ _ _).trans (grown_set _ _ _ _)
            have HS := Lib.hid hS
            have HSR := Lib.hid (HR4.out.grown hgr (by omega))
            have HSW := Lib.hid (HW4.out.grown hgr HW4.out.size (by intro k hk; injection hk with hk; omega))
            have HSO2 := Lib.hid (HRW4.out.kept hgr (own_not HRW4.out (by omega)))
            clear hS hgr hT4 hA4
            subst hV
            go_wp2_with (first
              | ((with_reducible refine pick (some 63) ?_); refine load_blk rfl 54 (.tmp 7) rfl w1.heap.size rfl 54 #[.int .i64 1, .int .i64 a, .bool true, .slice D N p] _ HS.out Tryz.underlying54 rfl info_sec ?_)
              | ((with_reducible refine pick none ?_); refine store_blk rfl 54 (.tmp 6) _ rfl (w.heap.size + 1) #[.int .i64 1, .int .i64 a, .bool true, .slice D N p] rfl rfl 54 _ HSR.out info_sec rfl (by simp [Value.oneCell']) ?_; intro w6 hB6 hg6; have hW6 := HSW.out.grown hg6 HSW.out.size (by intro k hk; injection hk with hk; omega); have hO6 := HSO2.out.kept hg6 (own_not HSO2.out (by omega))))
            refine bodyPost_ret (v := .agg #[.int .i64 1, .int .i64 a, .bool true, .slice D N p]) (results_cell_row rfl _ _ (w.heap.size + 1) 54 _ (0, 0) _ rfl hB6 Tryz.underlying54 rfl info_sec) rfl ?_
            obtain ⟨z1, z2⟩ := HSC.out
            rw [HSO.out] at z1 z2
            rw [HEN.out.1, HEN.out.2.1, HEN.out.2.2, ← z1, ← z2, List.append_nil]
            exact ⟨.slice D N p, by simp [ham, HB.out.len], hO6.mono (by omega), hW6⟩
        · subst hg0
          obtain ⟨rl, he, hel, _⟩ := on_end (xs := xs) (a := a) (by unfold on; rw [hs, hr, hg]; rfl)
          rw [HB.out.len] at hel
          have hon := sc_one (k := k) (.inl hs) (by rw [hr]; exact hg) he
          have hfd : fnd xs k a = ⟨floatOfInt .f64 k, floatOfInt .f64 a, ((a + 8 + rl : Nat) : Int) - a, false, ⟨seq, ver, index, count, re, im, gone, key, value⟩⟩ := by unfold fnd; rw [hs, hr, hx, he]; rfl
          have HQ : Hid (q = ((a + 8 + rl : Nat) : Int)) := Lib.hid (by rw [← hq, he])
          have hq1 : (a : Int) ≤ q := by rw [HQ.out]; omega
          have hq2 : q ≤ 1000000 := by rw [HQ.out]; omega
          obtain ⟨zr, hzr⟩ : ∃ z, floatOfInt .f64 (k : Int) = z := ⟨_, rfl⟩
          obtain ⟨zi, hzi⟩ : ∃ z, floatOfInt .f64 (a : Int) = z := ⟨_, rfl⟩
          have PL := Lib.hid (fun w => PlaceH.refof_yes (k : Int) (a : Int) w (by omega) (by omega) (by omega) (by omega))
          rw [hzr, hzi] at PL hfd
          rw [← HQ.out] at hfd
          have HFD := Lib.hid hfd
          have HON := Lib.hid hon
          have e1 : IntKind.i64.wrap (q - (a : Int)) = q - (a : Int) := IntWalk.i64_in _ (by omega)
          have cv : V.cell? ⟨w1.heap.size, 3, none⟩ = some (.slice D N p) := hT4.cell 3
          have cw : (V.alloc (.cells #[.complex .f64 zr zi, .int .i64 (q - a), .bool false, .int .u64 seq, .int .u64 ver, .int .i64 index, .int .i64 count, .complex .f64 re im, .bool gone, .string key, .string value] 103)).cell? ⟨w1.heap.size, 3, none⟩ = some (.slice D N p) := (hT4.alloc _).cell 3
          have s0 : V.cell? ⟨w3.heap.size, 0, none⟩ = some (.int .u64 seq) := hA4.cell 0
          have s1 : V.cell? ⟨w3.heap.size, 1, none⟩ = some (.int .u64 ver) := hA4.cell 1
          have s2 : V.cell? ⟨w3.heap.size, 2, none⟩ = some (.int .i64 index) := hA4.cell 2
          have s3 : V.cell? ⟨w3.heap.size, 3, none⟩ = some (.int .i64 count) := hA4.cell 3
          have s4 : V.cell? ⟨w3.heap.size, 4, none⟩ = some (.complex .f64 re im) := hA4.cell 4
          have s5 : V.cell? ⟨w3.heap.size, 5, none⟩ = some (.bool gone) := hA4.cell 5
          have s6 : V.cell? ⟨w3.heap.size, 6, none⟩ = some (.string key) := hA4.cell 6
          have s7 : V.cell? ⟨w3.heap.size, 7, none⟩ = some (.string value) := hA4.cell 7
          have hgb : ∀ g, (Value.slice D N p).ownBlock = some g → w1.heap.size + 1 ≤ g := fun g hg => (HRW4.out.lt g hg).1
          have HN : Hid (∀ (wz : World) (gg cap : Nat), wz.ownsRow (w1.heap.size + 1) 103 11 (.slice (some ⟨gg, 0, none⟩) (L1.length + 1) cap) (L1.length + 1) (flat L1 ++ [.complex .f64 zr zi, .int .i64 (q - a), .bool false, .int .u64 seq, .int .u64 ver, .int .i64 index, .int .i64 count, .complex .f64 re im, .bool gone, .string key, .string value]) → (V.alloc (.cells #[.complex .f64 zr zi, .int .i64 (q - a), .bool false, .int .u64 seq, .int .u64 ver, .int .i64 index, .int .i64 count, .complex .f64 re im, .bool gone, .string key, .string value] 103)).drew.grownBy wz (Value.slice D N p).ownBlock → wz.cell? ⟨w1.heap.size, 3, none⟩ = some (.slice D N p) ∧ wz.frozen? ⟨w1.heap.size, 3, none⟩ = false ∧ Blk (wz.setCell ⟨w1.heap.size, 3, none⟩ (.slice (some ⟨gg, 0, none⟩) (L1.length + 1) cap)) w1.heap.size #[.int .i64 1, .int .i64 0, .bool false, (.slice (some ⟨gg, 0, none⟩) (L1.length + 1) cap)] 54 ∧ Blk (wz.setCell ⟨w1.heap.size, 3, none⟩ (.slice (some ⟨gg, 0, none⟩) (L1.length + 1) cap)) (w.heap.size + 1) #[.int .i64 0, .int .i64 0, .bool false, .slice none 0 0] 54 ∧ (wz.setCell ⟨w1.heap.size, 3, none⟩ (.slice (some ⟨gg, 0, none⟩) (L1.length + 1) cap)).ownsRow (w1.heap.size + 1) 103 11 (.slice (some ⟨gg, 0, none⟩) (L1.length + 1) cap) (L1.length + 1) (flat L1 ++ [.complex .f64 zr zi, .int .i64 (q - a), .bool false, .int .u64 seq, .int .u64 ver, .int .i64 index, .int .i64 count, .complex .f64 re im, .bool gone, .string key, .string value]) ∧ Below w.heap.size w (wz.setCell ⟨w1.heap.size, 3, none⟩ (.slice (some ⟨gg, 0, none⟩) (L1.length + 1) cap))) := Lib.hid (by
            intro wz gg cap ho hg
            have ht := blk_grown ((HT4.out.alloc (.cells #[.complex .f64 zr zi, .int .i64 (q - a), .bool false, .int .u64 seq, .int .u64 ver, .int .i64 index, .int .i64 count, .complex .f64 re im, .bool gone, .string key, .string value] 103)).drew) hg (fun e => by have := hgb _ e; omega)
            have hr := blk_grown ((HR4.out.alloc (.cells #[.complex .f64 zr zi, .int .i64 (q - a), .bool false, .int .u64 seq, .int .u64 ver, .int .i64 index, .int .i64 count, .complex .f64 re im, .bool gone, .string key, .string value] 103)).drew) hg (fun e => by have := hgb _ e; omega)
            have hb := (((HW4.out.alloc HW4.out.size (.cells #[.complex .f64 zr zi, .int .i64 (q - a), .bool false, .int .u64 seq, .int .u64 ver, .int .i64 index, .int .i64 count, .complex .f64 re im, .bool gone, .string key, .string value] 103)).drew).grown hg (by have := HW4.out.size; simp; omega) (fun g e => by have := hgb _ e; omega))
            refine ⟨ht.cell 3, ht.frozen 3, by simpa using ht.set_ 3 (.slice (some ⟨gg, 0, none⟩) (L1.length + 1) cap), hr.far (by simp; omega) _, ho.kept (grown_set _ _ _ _) (own_not ho (by omega)), hb.grown (grown_set _ _ _ _) hb.size (by intro k hk; injection hk with hk; omega)⟩)
          clear hT4 hA4 hgb hzr hzi hfd hon hq
          go_wp2_with fail
          clear hV HV
          go_region_law (first
            | (go_simp; go_at_call 10; refine (PL.out _).mono ?_; rintro e w' ⟨rfl, rfl⟩)
            | (refine step_append_lies _ (by rfl) _ _ _ (by rfl) (w1.heap.size + 1) 103 j0 _ 11 120 Tryz.underlying50 hjx hy0 hy1 hy2 rfl (by omega) (.slice D N p) L1.length _ (by rfl) ((HRW4.out.alloc _).drew) ⟨V.heap.size, 0, none⟩ 1 1 [.complex .f64 zr zi, .int .i64 (q - a), .bool false, .int .u64 seq, .int .u64 ver, .int .i64 index, .int .i64 count, .complex .f64 re im, .bool gone, .string key, .string value] (by rfl) (by rfl) (World.news_of_block (cs := #[.complex .f64 zr zi, .int .i64 (q - a), .bool false, .int .u64 seq, .int .u64 ver, .int .i64 index, .int .i64 count, .complex .f64 re im, .bool gone, .string key, .string value]) (t := 103) (fr := (0, 0)) (heap_alloc_new V _)) (by simp [Value.oneCell']) (by omega) (by unfold maxLen; omega) (by omega) (by simp; omega) (V.heap.size + 1) (by simp) ?_; intro gg cap wz hown3 hgrow hat3 hlt3; obtain ⟨c33, f33, hn4⟩ := HN.out wz gg cap hown3 hgrow; have HN4 := Lib.hid hn4; clear hn4))
          all_goals
            clear c33 f33 hown3 hgrow hat3 hlt3 cv cw s0 s1 s2 s3 s4 s5 s6 s7
            go_wp2_with fail
            go_roundw
            case rel =>
              refine ⟨a + 8 + rl, L1 ++ [fnd xs k a], _, hel, by rw [HQ.out], HN4.out.1, HN4.out.2.1, ?_, Lib.hid ?_, HN4.out.2.2.2⟩
              · have := HN4.out.2.2.1
                rw [List.length_append, List.length_singleton]
                unfold flat at this ⊢
                rw [List.flatMap_append, List.flatMap_singleton, HFD.out]
                exact this
              · have := HSC.out
                rw [HON.out] at this
                rw [List.append_assoc]
                exact this
            case measure => simp [intOf]; have := HQ.out; omega
      · subst h5
        by_cases hg0 : g = 0
        rotate_left
        · skip
          have ho : on xs a = false := by unfold on; rw [hs, hr, hg]; simp; exact hg0
          have HSO := Lib.hid (sc_off (k := k) ho)
          rw [hs] at HSO
          by_cases ham : a = m
          · subst ham
            have d : ((a : Int) == (a : Int)) = true := by simp
            have dg : (g != 0) = true := by rw [bne_iff_ne]; exact hg0
            have c1 : V.cell? ⟨w1.heap.size, 1, none⟩ = some (.int .i64 0) := hT4.cell 1
            have f1 : V.frozen? ⟨w1.heap.size, 1, none⟩ = false := hT4.frozen 1
            have c2 : V.cell? ⟨w1.heap.size, 2, none⟩ = some (.bool false) := hT4.cell 2
            have f2 : V.frozen? ⟨w1.heap.size, 2, none⟩ = false := hT4.frozen 2
            have hS : Blk ((V.setCell ⟨w1.heap.size, 1, none⟩ (.int .i64 a)).setCell ⟨w1.heap.size, 2, none⟩ (.bool true)) w1.heap.size #[.int .i64 1, .int .i64 a, .bool true, .slice D N p] 54 := by simpa using (HT4.out.set_ 1 (.int .i64 a)).set_ 2 (.bool true)
            have hgr : V.grownBy ((V.setCell ⟨w1.heap.size, 1, none⟩ (.int .i64 a)).setCell ⟨w1.heap.size, 2, none⟩ (.bool true)) (some w1.heap.size) := (grown_set _ _ _ _).trans (grown_set _ _ _ _)
            have HS := Lib.hid hS
            have HSR := Lib.hid (HR4.out.grown hgr (by omega))
            have HSW := Lib.hid (HW4.out.grown hgr HW4.out.size (by intro k hk; injection hk with hk; omega))
            have HSO2 := Lib.hid (HRW4.out.kept hgr (own_not HRW4.out (by omega)))
            clear hS hgr hT4 hA4
            subst hV
            go_wp2_with (first
              | ((with_reducible refine pick (some 63) ?_); refine load_blk rfl 54 (.tmp 7) rfl w1.heap.size rfl 54 #[.int .i64 1, .int .i64 a, .bool true, .slice D N p] _ HS.out Tryz.underlying54 rfl info_sec ?_)
              | ((with_reducible refine pick none ?_); refine store_blk rfl 54 (.tmp 6) _ rfl (w.heap.size + 1) #[.int .i64 1, .int .i64 a, .bool true, .slice D N p] rfl rfl 54 _ HSR.out info_sec rfl (by simp [Value.oneCell']) ?_; intro w6 hB6 hg6; have hW6 := HSW.out.grown hg6 HSW.out.size (by intro k hk; injection hk with hk; omega); have hO6 := HSO2.out.kept hg6 (own_not HSO2.out (by omega))))
            refine bodyPost_ret (v := .agg #[.int .i64 1, .int .i64 a, .bool true, .slice D N p]) (results_cell_row rfl _ _ (w.heap.size + 1) 54 _ (0, 0) _ rfl hB6 Tryz.underlying54 rfl info_sec) rfl ?_
            obtain ⟨z1, z2⟩ := HSC.out
            rw [HSO.out] at z1 z2
            rw [HEN.out.1, HEN.out.2.1, HEN.out.2.2, ← z1, ← z2, List.append_nil]
            exact ⟨.slice D N p, by simp [HB.out.len], hO6.mono (by omega), hW6⟩
          · have d : ((a : Int) == (m : Int)) = false := by rw [beq_eq_false_iff_ne]; omega
            have dg : (g != 0) = true := by rw [bne_iff_ne]; exact hg0
            have c1 : V.cell? ⟨w1.heap.size, 1, none⟩ = some (.int .i64 0) := hT4.cell 1
            have f1 : V.frozen? ⟨w1.heap.size, 1, none⟩ = false := hT4.frozen 1
            have c2 : V.cell? ⟨w1.heap.size, 2, none⟩ = some (.bool false) := hT4.cell 2
            have f2 : V.frozen? ⟨w1.heap.size, 2, none⟩ = false := hT4.frozen 2
            have hS : Blk ((V.setCell ⟨w1.heap.size, 1, none⟩ (.int .i64 a)).setCell ⟨w1.heap.size, 2, none⟩ (.bool true)) w1.heap.size #[.int .i64 1, .int .i64 a, .bool true, .slice D N p] 54 := by simpa using (HT4.out.set_ 1 (.int .i64 a)).set_ 2 (.bool true)
            have hgr : V.grownBy ((V.setCell ⟨w1.heap.size, 1, none⟩ (.int .i64 a)).setCell ⟨w1.heap.size, 2, none⟩ (.bool true)) (some w1.heap.size) := (grown_set _ _ _ _).trans (grown_set _ _ _ _)
            have HS := Lib.hid hS
            have HSR := Lib.hid (HR4.out.grown hgr (by omega))
            have HSW := Lib.hid (HW4.out.grown hgr HW4.out.size (by intro k hk; injection hk with hk; omega))
            have HSO2 := Lib.hid (HRW4.out.kept hgr (own_not HRW4.out (by omega)))
            clear hS hgr hT4 hA4
            subst hV
            go_wp2_with (first
              | ((with_reducible refine pick (some 63) ?_); refine load_blk rfl 54 (.tmp 7) rfl w1.heap.size rfl 54 #[.int .i64 1, .int .i64 a, .bool true, .slice D N p] _ HS.out Tryz.underlying54 rfl info_sec ?_)
              | ((with_reducible refine pick none ?_); refine store_blk rfl 54 (.tmp 6) _ rfl (w.heap.size + 1) #[.int .i64 1, .int .i64 a, .bool true, .slice D N p] rfl rfl 54 _ HSR.out info_sec rfl (by simp [Value.oneCell']) ?_; intro w6 hB6 hg6; have hW6 := HSW.out.grown hg6 HSW.out.size (by intro k hk; injection hk with hk; omega); have hO6 := HSO2.out.kept hg6 (own_not HSO2.out (by omega))))
            refine bodyPost_ret (v := .agg #[.int .i64 1, .int .i64 a, .bool true, .slice D N p]) (results_cell_row rfl _ _ (w.heap.size + 1) 54 _ (0, 0) _ rfl hB6 Tryz.underlying54 rfl info_sec) rfl ?_
            obtain ⟨z1, z2⟩ := HSC.out
            rw [HSO.out] at z1 z2
            rw [HEN.out.1, HEN.out.2.1, HEN.out.2.2, ← z1, ← z2, List.append_nil]
            exact ⟨.slice D N p, by simp [ham, HB.out.len], hO6.mono (by omega), hW6⟩
        · subst hg0
          obtain ⟨rl, he, hel, _⟩ := on_end (xs := xs) (a := a) (by unfold on; rw [hs, hr, hg]; rfl)
          rw [HB.out.len] at hel
          have hon := sc_one (k := k) (.inr hs) (by rw [hr]; exact hg) he
          have hfd : fnd xs k a = ⟨floatOfInt .f64 k, floatOfInt .f64 a, ((a + 8 + rl : Nat) : Int) - a, true, ⟨seq, ver, index, count, re, im, gone, key, value⟩⟩ := by unfold fnd; rw [hs, hr, hx, he]; rfl
          have HQ : Hid (q = ((a + 8 + rl : Nat) : Int)) := Lib.hid (by rw [← hq, he])
          have hq1 : (a : Int) ≤ q := by rw [HQ.out]; omega
          have hq2 : q ≤ 1000000 := by rw [HQ.out]; omega
          obtain ⟨zr, hzr⟩ : ∃ z, floatOfInt .f64 (k : Int) = z := ⟨_, rfl⟩
          obtain ⟨zi, hzi⟩ : ∃ z, floatOfInt .f64 (a : Int) = z := ⟨_, rfl⟩
          have PL := Lib.hid (fun w => PlaceH.refof_yes (k : Int) (a : Int) w (by omega) (by omega) (by omega) (by omega))
          rw [hzr, hzi] at PL hfd
          rw [← HQ.out] at hfd
          have HFD := Lib.hid hfd
          have HON := Lib.hid hon
          have e1 : IntKind.i64.wrap (q - (a : Int)) = q - (a : Int) := IntWalk.i64_in _ (by omega)
          have cv : V.cell? ⟨w1.heap.size, 3, none⟩ = some (.slice D N p) := hT4.cell 3
          have cw : (V.alloc (.cells #[.complex .f64 zr zi, .int .i64 (q - a), .bool true, .int .u64 seq, .int .u64 ver, .int .i64 index, .int .i64 count, .complex .f64 re im, .bool gone, .string key, .string value] 103)).cell? ⟨w1.heap.size, 3, none⟩ = some (.slice D N p) := (hT4.alloc _).cell 3
          have s0 : V.cell? ⟨w3.heap.size, 0, none⟩ = some (.int .u64 seq) := hA4.cell 0
          have s1 : V.cell? ⟨w3.heap.size, 1, none⟩ = some (.int .u64 ver) := hA4.cell 1
          have s2 : V.cell? ⟨w3.heap.size, 2, none⟩ = some (.int .i64 index) := hA4.cell 2
          have s3 : V.cell? ⟨w3.heap.size, 3, none⟩ = some (.int .i64 count) := hA4.cell 3
          have s4 : V.cell? ⟨w3.heap.size, 4, none⟩ = some (.complex .f64 re im) := hA4.cell 4
          have s5 : V.cell? ⟨w3.heap.size, 5, none⟩ = some (.bool gone) := hA4.cell 5
          have s6 : V.cell? ⟨w3.heap.size, 6, none⟩ = some (.string key) := hA4.cell 6
          have s7 : V.cell? ⟨w3.heap.size, 7, none⟩ = some (.string value) := hA4.cell 7
          have hgb : ∀ g, (Value.slice D N p).ownBlock = some g → w1.heap.size + 1 ≤ g := fun g hg => (HRW4.out.lt g hg).1
          have HN : Hid (∀ (wz : World) (gg cap : Nat), wz.ownsRow (w1.heap.size + 1) 103 11 (.slice (some ⟨gg, 0, none⟩) (L1.length + 1) cap) (L1.length + 1) (flat L1 ++ [.complex .f64 zr zi, .int .i64 (q - a), .bool true, .int .u64 seq, .int .u64 ver, .int .i64 index, .int .i64 count, .complex .f64 re im, .bool gone, .string key, .string value]) → (V.alloc (.cells #[.complex .f64 zr zi, .int .i64 (q - a), .bool true, .int .u64 seq, .int .u64 ver, .int .i64 index, .int .i64 count, .complex .f64 re im, .bool gone, .string key, .string value] 103)).drew.grownBy wz (Value.slice D N p).ownBlock → wz.cell? ⟨w1.heap.size, 3, none⟩ = some (.slice D N p) ∧ wz.frozen? ⟨w1.heap.size, 3, none⟩ = false ∧ Blk (wz.setCell ⟨w1.heap.size, 3, none⟩ (.slice (some ⟨gg, 0, none⟩) (L1.length + 1) cap)) w1.heap.size #[.int .i64 1, .int .i64 0, .bool false, (.slice (some ⟨gg, 0, none⟩) (L1.length + 1) cap)] 54 ∧ Blk (wz.setCell ⟨w1.heap.size, 3, none⟩ (.slice (some ⟨gg, 0, none⟩) (L1.length + 1) cap)) (w.heap.size + 1) #[.int .i64 0, .int .i64 0, .bool false, .slice none 0 0] 54 ∧ (wz.setCell ⟨w1.heap.size, 3, none⟩ (.slice (some ⟨gg, 0, none⟩) (L1.length + 1) cap)).ownsRow (w1.heap.size + 1) 103 11 (.slice (some ⟨gg, 0, none⟩) (L1.length + 1) cap) (L1.length + 1) (flat L1 ++ [.complex .f64 zr zi, .int .i64 (q - a), .bool true, .int .u64 seq, .int .u64 ver, .int .i64 index, .int .i64 count, .complex .f64 re im, .bool gone, .string key, .string value]) ∧ Below w.heap.size w (wz.setCell ⟨w1.heap.size, 3, none⟩ (.slice (some ⟨gg, 0, none⟩) (L1.length + 1) cap))) := Lib.hid (by
            intro wz gg cap ho hg
            have ht := blk_grown ((HT4.out.alloc (.cells #[.complex .f64 zr zi, .int .i64 (q - a), .bool true, .int .u64 seq, .int .u64 ver, .int .i64 index, .int .i64 count, .complex .f64 re im, .bool gone, .string key, .string value] 103)).drew) hg (fun e => by have := hgb _ e; omega)
            have hr := blk_grown ((HR4.out.alloc (.cells #[.complex .f64 zr zi, .int .i64 (q - a), .bool true, .int .u64 seq, .int .u64 ver, .int .i64 index, .int .i64 count, .complex .f64 re im, .bool gone, .string key, .string value] 103)).drew) hg (fun e => by have := hgb _ e; omega)
            have hb := (((HW4.out.alloc HW4.out.size (.cells #[.complex .f64 zr zi, .int .i64 (q - a), .bool true, .int .u64 seq, .int .u64 ver, .int .i64 index, .int .i64 count, .complex .f64 re im, .bool gone, .string key, .string value] 103)).drew).grown hg (by have := HW4.out.size; simp; omega) (fun g e => by have := hgb _ e; omega))
            refine ⟨ht.cell 3, ht.frozen 3, by simpa using ht.set_ 3 (.slice (some ⟨gg, 0, none⟩) (L1.length + 1) cap), hr.far (by simp; omega) _, ho.kept (grown_set _ _ _ _) (own_not ho (by omega)), hb.grown (grown_set _ _ _ _) hb.size (by intro k hk; injection hk with hk; omega)⟩)
          clear hT4 hA4 hgb hzr hzi hfd hon hq
          go_wp2_with fail
          clear hV HV
          go_region_law (first
            | (go_simp; go_at_call 10; refine (PL.out _).mono ?_; rintro e w' ⟨rfl, rfl⟩)
            | (refine step_append_lies _ (by rfl) _ _ _ (by rfl) (w1.heap.size + 1) 103 j0 _ 11 120 Tryz.underlying50 hjx hy0 hy1 hy2 rfl (by omega) (.slice D N p) L1.length _ (by rfl) ((HRW4.out.alloc _).drew) ⟨V.heap.size, 0, none⟩ 1 1 [.complex .f64 zr zi, .int .i64 (q - a), .bool true, .int .u64 seq, .int .u64 ver, .int .i64 index, .int .i64 count, .complex .f64 re im, .bool gone, .string key, .string value] (by rfl) (by rfl) (World.news_of_block (cs := #[.complex .f64 zr zi, .int .i64 (q - a), .bool true, .int .u64 seq, .int .u64 ver, .int .i64 index, .int .i64 count, .complex .f64 re im, .bool gone, .string key, .string value]) (t := 103) (fr := (0, 0)) (heap_alloc_new V _)) (by simp [Value.oneCell']) (by omega) (by unfold maxLen; omega) (by omega) (by simp; omega) (V.heap.size + 1) (by simp) ?_; intro gg cap wz hown3 hgrow hat3 hlt3; obtain ⟨c33, f33, hn4⟩ := HN.out wz gg cap hown3 hgrow; have HN4 := Lib.hid hn4; clear hn4))
          all_goals
            clear c33 f33 hown3 hgrow hat3 hlt3 cv cw s0 s1 s2 s3 s4 s5 s6 s7
            go_wp2_with fail
            go_roundw
            case rel =>
              refine ⟨a + 8 + rl, L1 ++ [fnd xs k a], _, hel, by rw [HQ.out], HN4.out.1, HN4.out.2.1, ?_, Lib.hid ?_, HN4.out.2.2.2⟩
              · have := HN4.out.2.2.1
                rw [List.length_append, List.length_singleton]
                unfold flat at this ⊢
                rw [List.flatMap_append, List.flatMap_singleton, HFD.out]
                exact this
              · have := HSC.out
                rw [HON.out] at this
                rw [List.append_assoc]
                exact this
            case measure => simp [intOf]; have := HQ.out; omega
end Go.Proofs.YthbafcihmcjchaaGreatDoor.ScanO
