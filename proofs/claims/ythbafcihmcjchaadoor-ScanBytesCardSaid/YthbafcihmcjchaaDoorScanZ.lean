/- The project's take of layer 8: what is found behind a live sector's head, by goto. -/
import Derived.Test.YthbafcihmcjchaaDoorScanO
import Derived.Test.YthbafcihmcjchaaDoorRingGq
import Derived.Test.YthbafcihmcjchaaDoorRecX
import Derived.ScopeJumps
namespace Go.Proofs.YthbafcihmcjchaaDoor.ScanZ
set_option linter.unusedVariables false
set_option linter.unusedSimpArgs false
open Go.RowKit
open Go.Proofs.YthbafcihmcjchaaDoor.Byte Go.Proofs.YthbafcihmcjchaaDoor.PlaceM Go.Proofs.YthbafcihmcjchaaDoor.PlaceV Go.Proofs.YthbafcihmcjchaaDoor.RecM Go.Proofs.YthbafcihmcjchaaDoor.RecX Go.Proofs.YthbafcihmcjchaaDoor.RingM Go.Proofs.YthbafcihmcjchaaDoor.RingN Go.Proofs.YthbafcihmcjchaaDoor.RingC Go.Proofs.YthbafcihmcjchaaDoor.RingK Go.Proofs.YthbafcihmcjchaaDoor.RingF Go.Proofs.YthbafcihmcjchaaDoor.RingS Go.Proofs.YthbafcihmcjchaaDoor.ScanM Go.Proofs.YthbafcihmcjchaaDoor.ScanO Go.Proofs.YthbafcihmcjchaaDoor.Own

attribute [local go_sem] Own.run_store_complex
/-- A scope in which the run jumps back to one label: what stands behind the label is walked once. -/
theorem scope_label {P : Program} {a : Act} {w : World} {Q : Exit → Act → World → Prop} {c rest : Code} (l : Nat) (J : Act → World → Prop) (μ : Act → World → Nat) (hf : findLabel c l = some (.seq .skip rest))
    (pass : ∀ a w, J a w → rest.wp P (Exit.jump l (fun a' w' => J a' w' ∧ μ a' w' < μ a w) Q) a w)
    (first : (∀ a w, J a w → rest.wp P (Exit.jump l J Q) a w) → c.wp P (Exit.jump l J Q) a w) : (Code.scope c).wp P Q a w := by
  refine wp_scope_jumps l J μ hf (first ?_) (fun a w h => wp_seq (wp_skip (pass a w h)))
  intro a w hJ b k cs
  obtain ⟨e, a1, w1, hq, harr⟩ := pass a w hJ b k cs
  refine ⟨e, a1, w1, ?_, harr⟩
  cases e with
  | goto l' => exact ⟨hq.1, hq.2.1⟩
  | normal => exact hq
  | exit _ => exact hq
  | ret => exact hq
  | panic _ => exact hq
  | outgrown => exact hq
/-- What is found, and the end, as answered. -/
def TakeE (L : List Fnd) (E : Nat) (w : World) (en : Ending) (w' : World) : Prop :=
  ∃ v, en = .returned (.tuple #[v, .int .i64 E]) ∧ w'.ownsRow w.heap.size 52 11 v L.length (flat L) ∧ Below w.heap.size w w'
set_option maxRecDepth 100000 in
set_option maxHeartbeats 4000000 in
theorem take_calls (A : Option Addr) (m c k : Nat) (xs : List Int) (w : World) (hb : Bs w A m xs) (hc : m ≤ c) (hm : m ≤ 100000) (hk : k ≤ 1000000) (h8 : 8 ≤ m) (hN : PlaceH.Nowhere w) :
    Calls Tryd.prog 13 #[.int .i64 k, .slice A m c] w (TakeE (sc xs k 8).1 (sc xs k 8).2.1 w) := by
  have HB := Lib.hid hb
  have HN := Lib.hid hN
  clear hb hN
  have CL := Lib.hid (fun (a : Nat) w hb => RecX.class_calls A m c xs a w hb (by omega) hc)
  obtain ⟨L0, hL0⟩ : ∃ x, (sc xs k 8).1 = x := ⟨_, rfl⟩
  obtain ⟨E0, hE0⟩ : ∃ x, (sc xs k 8).2.1 = x := ⟨_, rfl⟩
  have HE0 := Lib.hid hE0
  have HL0 := Lib.hid hL0
  rw [hL0, hE0]
  clear hE0 hL0
  obtain ⟨j0, hjx, hy0, hy1, hy2⟩ := info_parts info_found
  go_enter Tryd.func13, Tryd.ntmps13
  go_wp2_with fail
  refine scope_label 0 (fun a' wr => ∃ (a : Nat) (L1 : List Fnd) (v : Value) (u8 u9 u10 u11 u12 u13 u14 u15 u16 u17 u18 u19 u20 u21 u22 u23 u24 u25 u26 u27 u28 u29 u30 u31 u32 u33 u34 u35 u36 u37 u38 u39 u40 u41 u42 u43 u44 u45 u46 u47 u48 u49 u50 : Value), a' = { tmps := #[.int .i64 k, .slice A m c, undef, undef, .slice none 0 0, .int .i64 0, v, .int .i64 a, u8, u9, u10, u11, u12, u13, u14, u15, u16, u17, u18, u19, u20, u21, u22, u23, u24, u25, u26, u27, u28, u29, u30, u31, u32, u33, u34, u35, u36, u37, u38, u39, u40, u41, u42, u43, u44, u45, u46, u47, u48, u49, u50], defers := [] } ∧ a ≤ m ∧ wr.ownsRow w.heap.size 52 11 v L1.length (flat L1) ∧ Hid (L1 ++ (sc xs k a).1 = L0 ∧ (sc xs k a).2.1 = E0) ∧ Below w.heap.size w wr) (fun a' _ => m - (intOf (a'.tmps.getD 7 undef)).toNat) (by rfl) ?pass ?first
  case first =>
    intro HP
    have HP2 := Lib.hid HP
    clear HP
    go_wp2_with fail
    go_step3
    rename_i q' kk hK
    refine hK _ _ (HP2.out _ _ ⟨8, [], _, _, _, _, _, _, _, _, _, _, _, _, _, _, _, _, _, _, _, _, _, _, _, _, _, _, _, _, _, _, _, _, _, _, _, _, _, _, _, _, _, _, _, _, rfl, h8, World.ownsRow_nil _ _ _ _, Lib.hid ⟨HL0.out, HE0.out⟩, Below.refl _ _⟩)
  case pass =>
    rintro a' wr ⟨a, L1, v, u8, u9, u10, u11, u12, u13, u14, u15, u16, u17, u18, u19, u20, u21, u22, u23, u24, u25, u26, u27, u28, u29, u30, u31, u32, u33, u34, u35, u36, u37, u38, u39, u40, u41, u42, u43, u44, u45, u46, u47, u48, u49, u50, rfl, ha, hrow, HSC, hbel⟩
    have HRW := Lib.hid hrow
    have HBL := Lib.hid hbel
    have hvs : ∃ D N p, v = .slice D N p := own_slice hrow
    have hL1 : L1.length ≤ m := by
      have := congrArg List.length HSC.out.1
      rw [List.length_append, ← HL0.out] at this
      have h2 := sc_few xs k 8
      rw [HB.out.len] at h2
      omega
    have hbs := hbel.size
    clear hrow hbel
    obtain ⟨D, N, p, rfl⟩ := hvs
    obtain ⟨s, hs⟩ : ∃ s, cs xs a = s := ⟨_, rfl⟩
    obtain ⟨r, hr⟩ : ∃ r, cr xs a = r := ⟨_, rfl⟩
    obtain ⟨q, hq⟩ : ∃ q, ce xs a = q := ⟨_, rfl⟩
    obtain ⟨x, hx⟩ : ∃ x, gans r = x := ⟨_, rfl⟩
    obtain ⟨g, hg⟩ : ∃ g, gerr r = g := ⟨_, rfl⟩
    have hs5 : s = 0 ∨ s = 3 ∨ s = 6 ∨ s = 4 ∨ s = 5 := by rw [← hs]; exact cs_five xs a
    have hrl : r.length ≤ 100000 := by rw [← hr]; exact Nat.le_trans (cr_len xs a) (by rw [HB.out.len]; omega)
    have CA := Lib.hid (CL.out a wr (HB.out.below HBL.out))
    rw [hs, hr, hq] at CA
    rcases hs5 with h5 | h5 | h5 | h5 | h5
    · subst h5
      have ho : on xs a = false := by unfold on; rw [hs, hr]; rfl
      have HSO := Lib.hid (sc_off (k := k) ho)
      go_wp2_with fail
      refine CA.out.mono ?_
      rintro e w2 ⟨A2, c2, rfl, hbs2, _, hc2, hb2⟩
      have HBS := Lib.hid hbs2
      have HB2 := Lib.hid hb2
      have hz2 := hb2.size
      clear hbs2 hb2
      go_wp2_with fail
      try simp only [Exit.jump]
      go_ret2
      obtain ⟨z1, z2⟩ := HSC.out
      rw [HSO.out] at z1 z2
      dsimp only at z1 z2
      rw [List.append_nil] at z1
      subst z1
      subst z2
      exact ⟨_, rfl, RingF.own_below HRW.out (HB2.out), keeps HBL.out (HB2.out)⟩
    · subst h5
      have ho : on xs a = false := by unfold on; rw [hs, hr]; rfl
      have HSO := Lib.hid (sc_off (k := k) ho)
      go_wp2_with fail
      refine CA.out.mono ?_
      rintro e w2 ⟨A2, c2, rfl, hbs2, _, hc2, hb2⟩
      have HBS := Lib.hid hbs2
      have HB2 := Lib.hid hb2
      have hz2 := hb2.size
      clear hbs2 hb2
      go_wp2_with fail
      try simp only [Exit.jump]
      go_ret2
      obtain ⟨z1, z2⟩ := HSC.out
      rw [HSO.out] at z1 z2
      dsimp only at z1 z2
      rw [List.append_nil] at z1
      subst z1
      subst z2
      exact ⟨_, rfl, RingF.own_below HRW.out (HB2.out), keeps HBL.out (HB2.out)⟩
    · subst h5
      obtain ⟨rl, he, hel, _⟩ := on_end (xs := xs) (a := a) (by unfold on; rw [hs]; rfl)
      rw [HB.out.len] at hel
      have HSK := Lib.hid (sc_skip (k := k) hs he)
      rw [he] at hq
      subst hq
      go_wp2_with fail
      refine CA.out.mono ?_
      rintro e w2 ⟨A2, c2, rfl, hbs2, _, hc2, hb2⟩
      have HBS := Lib.hid hbs2
      have HB2 := Lib.hid hb2
      have hz2 := hb2.size
      clear hbs2 hb2
      go_wp2_with fail
      go_step3
      refine ⟨rfl, ⟨a + 8 + rl, L1, _, _, _, _, _, _, _, _, _, _, _, _, _, _, _, _, _, _, _, _, _, _, _, _, _, _, _, _, _, _, _, _, _, _, _, _, _, _, _, _, _, _, _, _, rfl, hel, RingF.own_below HRW.out HB2.out, Lib.hid (by rw [← HSK.out]; exact HSC.out), keeps HBL.out HB2.out⟩, ?_⟩
      simp [intOf]; omega
    · subst h5
      have GA : Hid (∀ (A2 : Option Addr) (c2 : Nat) (w2 : World), Bs w2 A2 r.length r → r.length ≤ c2 → PlaceH.Nowhere w2 → Calls Tryd.prog 26 #[.slice A2 r.length c2] w2 (ItE x g w2)) := Lib.hid (by intro A2 c2 w2 hb hc hn; have := RingGq.get_item A2 r.length c2 r w2 hb hrl hc hn; rw [hx, hg] at this; exact this)
      obtain ⟨seq, ver, index, count, re, im, gone, key, value⟩ := x
      go_wp2_with fail
      refine CA.out.mono ?_
      rintro e w2 ⟨A2, c2, rfl, hbs2, _, hc2, hb2⟩
      have HBS := Lib.hid hbs2
      have HB2 := Lib.hid hb2
      have hz2 := hb2.size
      clear hbs2 hb2
      have HN2 := Lib.hid (HN.out.below (keeps HBL.out HB2.out))
      by_cases hg0 : g = 0
      rotate_left
      · have dg : (g != 0) = true := by rw [bne_iff_ne]; exact hg0
        have ho : on xs a = false := by unfold on; rw [hs, hr, hg]; simp; exact hg0
        have HSO := Lib.hid (sc_off (k := k) ho)
        clear hg hx hr hs hq hg0 ho
        go_wp2_with fail
        refine (GA.out _ _ _ HBS.out hc2 HN2.out).mono ?_
        rintro e w3 ⟨rfl, hb3⟩
        have HB3 := Lib.hid (keeps HB2.out hb3)
        clear hb3
        go_wp2_with fail
        try simp only [Exit.jump]
        go_ret2
        obtain ⟨z1, z2⟩ := HSC.out
        rw [HSO.out] at z1 z2
        dsimp only at z1 z2
        rw [List.append_nil] at z1
        subst z1
        subst z2
        exact ⟨_, rfl, RingF.own_below HRW.out (HB3.out.alloc HB3.out.size _), keeps HBL.out (HB3.out.alloc HB3.out.size _)⟩
      · subst hg0
        have dg : ((0 : Int) != 0) = false := rfl
        obtain ⟨rl, he, hel, _⟩ := on_end (xs := xs) (a := a) (by unfold on; rw [hs, hr, hg]; rfl)
        rw [HB.out.len] at hel
        have hon := sc_one (k := k) (.inl hs) (by rw [hr]; exact hg) he
        have hfd : fnd xs k a = ⟨floatOfInt .f64 k, floatOfInt .f64 a, ((a + 8 + rl : Nat) : Int) - a, false, ⟨seq, ver, index, count, re, im, gone, key, value⟩⟩ := by unfold fnd; rw [hs, hr, hx, he]; rfl
        have HQ : Hid (q = ((a + 8 + rl : Nat) : Int)) := Lib.hid (by rw [← hq, he])
        have hq1 : (a : Int) ≤ q := by rw [HQ.out]; omega
        have hq2 : q ≤ 1000000 := by rw [HQ.out]; omega
        obtain ⟨zr, hzr⟩ : ∃ z, floatOfInt .f64 (k : Int) = z := ⟨_, rfl⟩
        obtain ⟨zi, hzi⟩ : ∃ z, floatOfInt .f64 (a : Int) = z := ⟨_, rfl⟩
        have PL := Lib.hid (fun w => PlaceV.of_yes (k : Int) (a : Int) w (by omega) (by omega) (by omega) (by omega))
        rw [hzr, hzi] at PL hfd
        rw [← HQ.out] at hfd
        have HFD := Lib.hid hfd
        have HON := Lib.hid hon
        have e1 : IntKind.i64.wrap (q - (a : Int)) = q - (a : Int) := IntWalk.i64_in _ (by omega)
        clear hg hx hr hs hq hzr hzi hfd hon he
        go_wp2_with fail
        refine (GA.out _ _ _ HBS.out hc2 HN2.out).mono ?_
        rintro e w3 ⟨rfl, hb3⟩
        have HB3 := Lib.hid (keeps HB2.out hb3)
        clear hb3
        have hA4 := Blk.new_ w3 #[.int .u64 seq, .int .u64 ver, .int .i64 index, .int .i64 count, .complex .f64 re im, .bool gone, .string key, .string value] 47
        obtain ⟨V, hV⟩ : ∃ V, w3.alloc (.cells #[.int .u64 seq, .int .u64 ver, .int .i64 index, .int .i64 count, .complex .f64 re im, .bool gone, .string key, .string value] 47) = V := ⟨_, rfl⟩
        have hb4 : Below wr.heap.size wr V := by rw [← hV]; exact HB3.out.alloc HB3.out.size _
        rw [hV] at hA4
        have HW4 := Lib.hid (keeps HBL.out hb4)
        have HRW4 := Lib.hid (RingF.own_below HRW.out hb4)
        have hVl := hA4.lt
        have hVz := HW4.out.size
        have HV := Lib.hid hV
        have s0 : V.cell? ⟨w3.heap.size, 0, none⟩ = some (.int .u64 seq) := hA4.cell 0
        have s1 : V.cell? ⟨w3.heap.size, 1, none⟩ = some (.int .u64 ver) := hA4.cell 1
        have s2 : V.cell? ⟨w3.heap.size, 2, none⟩ = some (.int .i64 index) := hA4.cell 2
        have s3 : V.cell? ⟨w3.heap.size, 3, none⟩ = some (.int .i64 count) := hA4.cell 3
        have s4 : V.cell? ⟨w3.heap.size, 4, none⟩ = some (.complex .f64 re im) := hA4.cell 4
        have s5 : V.cell? ⟨w3.heap.size, 5, none⟩ = some (.bool gone) := hA4.cell 5
        have s6 : V.cell? ⟨w3.heap.size, 6, none⟩ = some (.string key) := hA4.cell 6
        have s7 : V.cell? ⟨w3.heap.size, 7, none⟩ = some (.string value) := hA4.cell 7
        have hgb : ∀ g, (Value.slice D N p).ownBlock = some g → w.heap.size ≤ g := fun g hg => (HRW4.out.lt g hg).1
        have HNX : Hid (∀ (wz : World) (gg cap : Nat), wz.ownsRow w.heap.size 52 11 (.slice (some ⟨gg, 0, none⟩) (L1.length + 1) cap) (L1.length + 1) (flat L1 ++ [.complex .f64 zr zi, .int .i64 (q - a), .bool false, .int .u64 seq, .int .u64 ver, .int .i64 index, .int .i64 count, .complex .f64 re im, .bool gone, .string key, .string value]) → (V.alloc (.cells #[.complex .f64 zr zi, .int .i64 (q - a), .bool false, .int .u64 seq, .int .u64 ver, .int .i64 index, .int .i64 count, .complex .f64 re im, .bool gone, .string key, .string value] 52)).drew.grownBy wz (Value.slice D N p).ownBlock → wz.ownsRow w.heap.size 52 11 (.slice (some ⟨gg, 0, none⟩) (L1.length + 1) cap) (L1.length + 1) (flat L1 ++ [.complex .f64 zr zi, .int .i64 (q - a), .bool false, .int .u64 seq, .int .u64 ver, .int .i64 index, .int .i64 count, .complex .f64 re im, .bool gone, .string key, .string value]) ∧ Below w.heap.size w wz) := Lib.hid (by
          intro wz gg cap ho hg
          exact ⟨ho, (((HW4.out.alloc HW4.out.size (.cells #[.complex .f64 zr zi, .int .i64 (q - a), .bool false, .int .u64 seq, .int .u64 ver, .int .i64 index, .int .i64 count, .complex .f64 re im, .bool gone, .string key, .string value] 52)).drew).grown hg (by have := HW4.out.size; simp; omega) (fun g e => by have := hgb _ e; omega))⟩)
        clear hA4 hgb hb4
        go_wp2_with fail
        clear hV HV
        go_region_law (first
          | (go_simp; go_at_call 27; refine (PL.out _).mono ?_; rintro e w' ⟨rfl, rfl⟩)
          | (refine step_append_lies _ (by rfl) _ _ _ (by rfl) w.heap.size 52 j0 _ 11 120 Tryd.underlying27 hjx hy0 hy1 hy2 rfl (by omega) (.slice D N p) L1.length _ (by rfl) ((HRW4.out.alloc _).drew) ⟨V.heap.size, 0, none⟩ 1 1 [.complex .f64 zr zi, .int .i64 (q - a), .bool false, .int .u64 seq, .int .u64 ver, .int .i64 index, .int .i64 count, .complex .f64 re im, .bool gone, .string key, .string value] (by rfl) (by rfl) (World.news_of_block (cs := #[.complex .f64 zr zi, .int .i64 (q - a), .bool false, .int .u64 seq, .int .u64 ver, .int .i64 index, .int .i64 count, .complex .f64 re im, .bool gone, .string key, .string value]) (t := 52) (fr := (0, 0)) (heap_alloc_new V _)) (by simp [Value.oneCell']) (by omega) (by unfold maxLen; omega) (by omega) (by simp; omega) (V.heap.size + 1) (by simp) ?_; intro gg cap wz hown3 hgrow hat3 hlt3; have hn4 := HNX.out wz gg cap hown3 hgrow; have HN4 := Lib.hid hn4; clear hn4))
        all_goals
          clear hown3 hgrow hat3 hlt3 s0 s1 s2 s3 s4 s5 s6 s7
          go_wp2_with fail
          go_step3
          refine ⟨rfl, ⟨a + 8 + rl, L1 ++ [fnd xs k a], _, _, _, _, _, _, _, _, _, _, _, _, _, _, _, _, _, _, _, _, _, _, _, _, _, _, _, _, _, _, _, _, _, _, _, _, _, _, _, _, _, _, _, _, by rw [HQ.out], hel, ?_, Lib.hid ?_, HN4.out.2⟩, ?_⟩
          · have := HN4.out.1
            rw [List.length_append, List.length_singleton]
            unfold flat at this ⊢
            rw [List.flatMap_append, List.flatMap_singleton, HFD.out]
            exact this
          · have := HSC.out
            rw [HON.out] at this
            rw [List.append_assoc]
            exact this
          · simp [intOf]; have := HQ.out; omega
    · subst h5
      have GA : Hid (∀ (A2 : Option Addr) (c2 : Nat) (w2 : World), Bs w2 A2 r.length r → r.length ≤ c2 → PlaceH.Nowhere w2 → Calls Tryd.prog 26 #[.slice A2 r.length c2] w2 (ItE x g w2)) := Lib.hid (by intro A2 c2 w2 hb hc hn; have := RingGq.get_item A2 r.length c2 r w2 hb hrl hc hn; rw [hx, hg] at this; exact this)
      obtain ⟨seq, ver, index, count, re, im, gone, key, value⟩ := x
      go_wp2_with fail
      refine CA.out.mono ?_
      rintro e w2 ⟨A2, c2, rfl, hbs2, _, hc2, hb2⟩
      have HBS := Lib.hid hbs2
      have HB2 := Lib.hid hb2
      have hz2 := hb2.size
      clear hbs2 hb2
      have HN2 := Lib.hid (HN.out.below (keeps HBL.out HB2.out))
      by_cases hg0 : g = 0
      rotate_left
      · have dg : (g != 0) = true := by rw [bne_iff_ne]; exact hg0
        have ho : on xs a = false := by unfold on; rw [hs, hr, hg]; simp; exact hg0
        have HSO := Lib.hid (sc_off (k := k) ho)
        clear hg hx hr hs hq hg0 ho
        go_wp2_with fail
        refine (GA.out _ _ _ HBS.out hc2 HN2.out).mono ?_
        rintro e w3 ⟨rfl, hb3⟩
        have HB3 := Lib.hid (keeps HB2.out hb3)
        clear hb3
        go_wp2_with fail
        try simp only [Exit.jump]
        go_ret2
        obtain ⟨z1, z2⟩ := HSC.out
        rw [HSO.out] at z1 z2
        dsimp only at z1 z2
        rw [List.append_nil] at z1
        subst z1
        subst z2
        exact ⟨_, rfl, RingF.own_below HRW.out (HB3.out.alloc HB3.out.size _), keeps HBL.out (HB3.out.alloc HB3.out.size _)⟩
      · subst hg0
        have dg : ((0 : Int) != 0) = false := rfl
        obtain ⟨rl, he, hel, _⟩ := on_end (xs := xs) (a := a) (by unfold on; rw [hs, hr, hg]; rfl)
        rw [HB.out.len] at hel
        have hon := sc_one (k := k) (.inr hs) (by rw [hr]; exact hg) he
        have hfd : fnd xs k a = ⟨floatOfInt .f64 k, floatOfInt .f64 a, ((a + 8 + rl : Nat) : Int) - a, true, ⟨seq, ver, index, count, re, im, gone, key, value⟩⟩ := by unfold fnd; rw [hs, hr, hx, he]; rfl
        have HQ : Hid (q = ((a + 8 + rl : Nat) : Int)) := Lib.hid (by rw [← hq, he])
        have hq1 : (a : Int) ≤ q := by rw [HQ.out]; omega
        have hq2 : q ≤ 1000000 := by rw [HQ.out]; omega
        obtain ⟨zr, hzr⟩ : ∃ z, floatOfInt .f64 (k : Int) = z := ⟨_, rfl⟩
        obtain ⟨zi, hzi⟩ : ∃ z, floatOfInt .f64 (a : Int) = z := ⟨_, rfl⟩
        have PL := Lib.hid (fun w => PlaceV.of_yes (k : Int) (a : Int) w (by omega) (by omega) (by omega) (by omega))
        rw [hzr, hzi] at PL hfd
        rw [← HQ.out] at hfd
        have HFD := Lib.hid hfd
        have HON := Lib.hid hon
        have e1 : IntKind.i64.wrap (q - (a : Int)) = q - (a : Int) := IntWalk.i64_in _ (by omega)
        clear hg hx hr hs hq hzr hzi hfd hon he
        go_wp2_with fail
        refine (GA.out _ _ _ HBS.out hc2 HN2.out).mono ?_
        rintro e w3 ⟨rfl, hb3⟩
        have HB3 := Lib.hid (keeps HB2.out hb3)
        clear hb3
        have hA4 := Blk.new_ w3 #[.int .u64 seq, .int .u64 ver, .int .i64 index, .int .i64 count, .complex .f64 re im, .bool gone, .string key, .string value] 47
        obtain ⟨V, hV⟩ : ∃ V, w3.alloc (.cells #[.int .u64 seq, .int .u64 ver, .int .i64 index, .int .i64 count, .complex .f64 re im, .bool gone, .string key, .string value] 47) = V := ⟨_, rfl⟩
        have hb4 : Below wr.heap.size wr V := by rw [← hV]; exact HB3.out.alloc HB3.out.size _
        rw [hV] at hA4
        have HW4 := Lib.hid (keeps HBL.out hb4)
        have HRW4 := Lib.hid (RingF.own_below HRW.out hb4)
        have hVl := hA4.lt
        have hVz := HW4.out.size
        have HV := Lib.hid hV
        have s0 : V.cell? ⟨w3.heap.size, 0, none⟩ = some (.int .u64 seq) := hA4.cell 0
        have s1 : V.cell? ⟨w3.heap.size, 1, none⟩ = some (.int .u64 ver) := hA4.cell 1
        have s2 : V.cell? ⟨w3.heap.size, 2, none⟩ = some (.int .i64 index) := hA4.cell 2
        have s3 : V.cell? ⟨w3.heap.size, 3, none⟩ = some (.int .i64 count) := hA4.cell 3
        have s4 : V.cell? ⟨w3.heap.size, 4, none⟩ = some (.complex .f64 re im) := hA4.cell 4
        have s5 : V.cell? ⟨w3.heap.size, 5, none⟩ = some (.bool gone) := hA4.cell 5
        have s6 : V.cell? ⟨w3.heap.size, 6, none⟩ = some (.string key) := hA4.cell 6
        have s7 : V.cell? ⟨w3.heap.size, 7, none⟩ = some (.string value) := hA4.cell 7
        have hgb : ∀ g, (Value.slice D N p).ownBlock = some g → w.heap.size ≤ g := fun g hg => (HRW4.out.lt g hg).1
        have HNX : Hid (∀ (wz : World) (gg cap : Nat), wz.ownsRow w.heap.size 52 11 (.slice (some ⟨gg, 0, none⟩) (L1.length + 1) cap) (L1.length + 1) (flat L1 ++ [.complex .f64 zr zi, .int .i64 (q - a), .bool true, .int .u64 seq, .int .u64 ver, .int .i64 index, .int .i64 count, .complex .f64 re im, .bool gone, .string key, .string value]) → (V.alloc (.cells #[.complex .f64 zr zi, .int .i64 (q - a), .bool true, .int .u64 seq, .int .u64 ver, .int .i64 index, .int .i64 count, .complex .f64 re im, .bool gone, .string key, .string value] 52)).drew.grownBy wz (Value.slice D N p).ownBlock → wz.ownsRow w.heap.size 52 11 (.slice (some ⟨gg, 0, none⟩) (L1.length + 1) cap) (L1.length + 1) (flat L1 ++ [.complex .f64 zr zi, .int .i64 (q - a), .bool true, .int .u64 seq, .int .u64 ver, .int .i64 index, .int .i64 count, .complex .f64 re im, .bool gone, .string key, .string value]) ∧ Below w.heap.size w wz) := Lib.hid (by
          intro wz gg cap ho hg
          exact ⟨ho, (((HW4.out.alloc HW4.out.size (.cells #[.complex .f64 zr zi, .int .i64 (q - a), .bool true, .int .u64 seq, .int .u64 ver, .int .i64 index, .int .i64 count, .complex .f64 re im, .bool gone, .string key, .string value] 52)).drew).grown hg (by have := HW4.out.size; simp; omega) (fun g e => by have := hgb _ e; omega))⟩)
        clear hA4 hgb hb4
        go_wp2_with fail
        clear hV HV
        go_region_law (first
          | (go_simp; go_at_call 27; refine (PL.out _).mono ?_; rintro e w' ⟨rfl, rfl⟩)
          | (refine step_append_lies _ (by rfl) _ _ _ (by rfl) w.heap.size 52 j0 _ 11 120 Tryd.underlying27 hjx hy0 hy1 hy2 rfl (by omega) (.slice D N p) L1.length _ (by rfl) ((HRW4.out.alloc _).drew) ⟨V.heap.size, 0, none⟩ 1 1 [.complex .f64 zr zi, .int .i64 (q - a), .bool true, .int .u64 seq, .int .u64 ver, .int .i64 index, .int .i64 count, .complex .f64 re im, .bool gone, .string key, .string value] (by rfl) (by rfl) (World.news_of_block (cs := #[.complex .f64 zr zi, .int .i64 (q - a), .bool true, .int .u64 seq, .int .u64 ver, .int .i64 index, .int .i64 count, .complex .f64 re im, .bool gone, .string key, .string value]) (t := 52) (fr := (0, 0)) (heap_alloc_new V _)) (by simp [Value.oneCell']) (by omega) (by unfold maxLen; omega) (by omega) (by simp; omega) (V.heap.size + 1) (by simp) ?_; intro gg cap wz hown3 hgrow hat3 hlt3; have hn4 := HNX.out wz gg cap hown3 hgrow; have HN4 := Lib.hid hn4; clear hn4))
        all_goals
          clear hown3 hgrow hat3 hlt3 s0 s1 s2 s3 s4 s5 s6 s7
          go_wp2_with fail
          go_step3
          refine ⟨rfl, ⟨a + 8 + rl, L1 ++ [fnd xs k a], _, _, _, _, _, _, _, _, _, _, _, _, _, _, _, _, _, _, _, _, _, _, _, _, _, _, _, _, _, _, _, _, _, _, _, _, _, _, _, _, _, _, _, _, by rw [HQ.out], hel, ?_, Lib.hid ?_, HN4.out.2⟩, ?_⟩
          · have := HN4.out.1
            rw [List.length_append, List.length_singleton]
            unfold flat at this ⊢
            rw [List.flatMap_append, List.flatMap_singleton, HFD.out]
            exact this
          · have := HSC.out
            rw [HON.out] at this
            rw [List.append_assoc]
            exact this
          · simp [intOf]; have := HQ.out; omega
end Go.Proofs.YthbafcihmcjchaaDoor.ScanZ
