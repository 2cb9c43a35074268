/- The landed view: how it stands in memory; Get, Look, Set, Cut, Reads, Ranges, Copy. -/
import Derived.Test.YtdnenikplajmaaaViewKr
import Derived.Test.YtdnenikplajmaaaViewD
namespace Go.Proofs.Ytdnenikplajmaaa.ViewKs
set_option linter.unusedVariables false
set_option linter.unusedSimpArgs false
open Go.RowKit
open Go.Proofs.Ytdnenikplajmaaa.Byte Go.Proofs.Ytdnenikplajmaaa.KeysM Go.Proofs.Ytdnenikplajmaaa.TreeM Go.Proofs.Ytdnenikplajmaaa.ViewM Go.Proofs.Ytdnenikplajmaaa.ViewKm Go.Proofs.Ytdnenikplajmaaa.ViewKn Go.Proofs.Ytdnenikplajmaaa.ViewKr Go.Proofs.Ytdnenikplajmaaa.Own Go.Proofs.Ytdnenikplajmaaa.Rw Go.Proofs.Ytdnenikplajmaaa.Lst Go.Proofs.Ytdnenikplajmaaa.Chg Go.Proofs.Ytdnenikplajmaaa.TreeR Go.Proofs.Ytdnenikplajmaaa.TreeS Go.Proofs.Ytdnenikplajmaaa.TreeL Go.Proofs.Ytdnenikplajmaaa.TreeG Go.Proofs.Ytdnenikplajmaaa.TreeH Go.Proofs.Ytdnenikplajmaaa.Ho Go.Proofs.Ytdnenikplajmaaa.ViewR Go.Proofs.Ytdnenikplajmaaa.ViewG

theorem So.chg {α : Type} {e : Enc α} {T : TypeId} {w w' : World} {base n : Nat} {v : Value} {L : List α} {S : Nat → Prop} (h : So e T w base v n L) (k : Chg S w w') (hn : ∀ g, v.ownBlock = some g → ¬ S g) : So e T w' base v n L := by
  obtain ⟨h1, h2, h4⟩ := h
  refine ⟨h1, h2, ?_⟩
  rcases h4 with h4 | ⟨g, cap, cur, e1, e2, e3, rest⟩
  · exact .inl h4
  · have hlt : g < w.heap.size := by
      rcases Nat.lt_or_ge g w.heap.size with h | h
      · exact h
      · rw [Array.getElem?_eq_none h] at e3
        cases e3
    exact .inr ⟨g, cap, cur, e1, e2, (k.block g hlt (hn g (by rw [e1]; rfl))).trans e3, rest⟩
/-- A block of another type than the row's is not the row's. -/
theorem So.apart {α : Type} {e : Enc α} {T U : TypeId} {w : World} {base n g : Nat} {v : Value} {L : List α} {cs : Array Value} (h : So e T w base v n L) (hb : Blk w g cs U) (hne : U ≠ T) : ∀ k, v.ownBlock = some k → k ≠ g := fun k hk e => by
  subst e
  rcases h.2.2 with ⟨h1, _⟩ | ⟨g', cap, cur, h1, _, h3, _⟩
  · rw [h1] at hk
    cases hk
  · rw [h1] at hk
    have : g' = k := by injection hk
    subst this
    unfold Blk at hb
    rw [hb] at h3
    injection h3 with h3
    injection h3 with _ h3
    exact hne h3
/-- A view's cells: its base, what it shows, the keys that are written, those that were read; ranges. -/
structure VC (w : World) (g : Nat) (b sh wt rd rg : Value) (B S W R : List Pr) (G : List (ByteArray × ByteArray)) : Prop where
  blk : Blk w g #[b, sh, wt, rd, rg] 62
  base : TN w b B
  shown : TN w sh S
  wr : TN w wt W
  read : TN w rd R
  rgs : So rgE 58 w 0 rg G.length G
section
variable {w w' : World} {g : Nat} {b sh wt rd rg : Value} {B S W R : List Pr} {G : List (ByteArray × ByteArray)}
theorem VC.apart (h : VC w g b sh wt rd rg B S W R G) : ∀ k, rg.ownBlock = some k → k ≠ g := So.apart h.rgs h.blk (by decide)
theorem VC.lt (h : VC w g b sh wt rd rg B S W R G) : g < w.heap.size := h.blk.lt
theorem VC.stay {T : Nat → Prop} (h : VC w g b sh wt rd rg B S W R G) (c : Chg T w w') (k : Kept w w') (h1 : ¬ T g) (h2 : ∀ k, rg.ownBlock = some k → ¬ T k) : VC w' g b sh wt rd rg B S W R G :=
  ⟨ViewD.blk_chg h.blk c h1, h.base.keep k, h.shown.keep k, h.wr.keep k, h.read.keep k, So.chg h.rgs c h2⟩
theorem VC.below (h : VC w g b sh wt rd rg B S W R G) (hb : Below w.heap.size w w') : VC w' g b sh wt rd rg B S W R G :=
  ⟨h.blk.below hb, h.base.below hb, h.shown.below hb, h.wr.below hb, h.read.below hb, h.rgs.below hb⟩
theorem VC.cells (h : VC w g b sh wt rd rg B S W R G) : w.cell? ⟨g, 0, none⟩ = some b ∧ w.cell? ⟨g, 1, none⟩ = some sh ∧ w.cell? ⟨g, 2, none⟩ = some wt ∧ w.cell? ⟨g, 3, none⟩ = some rd ∧ w.cell? ⟨g, 4, none⟩ = some rg ∧ (∀ i, w.frozen? ⟨g, i, none⟩ = false) :=
  ⟨h.blk.cell 0, h.blk.cell 1, h.blk.cell 2, h.blk.cell 3, h.blk.cell 4, h.blk.frozen⟩
theorem kset (h : VC w g b sh wt rd rg B S W R G) (i : Nat) (u : Value) : Kept w (w.setCell ⟨g, i, none⟩ u) := ViewD.kept_set h.blk (by decide) i u
theorem rset (h : VC w g b sh wt rd rg B S W R G) (i : Nat) (u : Value) : So rgE 58 (w.setCell ⟨g, i, none⟩ u) 0 rg G.length G :=
  So.chg h.rgs ((Chg.refl (fun k => k = g) w).own i u) (fun k hk e => h.apart k hk e)
theorem VC.put1 (h : VC w g b sh wt rd rg B S W R G) {u : Value} {S' : List Pr} (hu : TN w u S') : VC (w.setCell ⟨g, 1, none⟩ u) g b u wt rd rg B S' W R G :=
  ⟨h.blk.set_ 1 u, h.base.keep (kset h 1 u), hu.keep (kset h 1 u), h.wr.keep (kset h 1 u), h.read.keep (kset h 1 u), rset h 1 u⟩
theorem VC.put2 (h : VC w g b sh wt rd rg B S W R G) {u : Value} {W' : List Pr} (hu : TN w u W') : VC (w.setCell ⟨g, 2, none⟩ u) g b sh u rd rg B S W' R G :=
  ⟨h.blk.set_ 2 u, h.base.keep (kset h 2 u), h.shown.keep (kset h 2 u), hu.keep (kset h 2 u), h.read.keep (kset h 2 u), rset h 2 u⟩
theorem VC.put3 (h : VC w g b sh wt rd rg B S W R G) {u : Value} {R' : List Pr} (hu : TN w u R') : VC (w.setCell ⟨g, 3, none⟩ u) g b sh wt u rg B S W R' G :=
  ⟨h.blk.set_ 3 u, h.base.keep (kset h 3 u), h.shown.keep (kset h 3 u), h.wr.keep (kset h 3 u), hu.keep (kset h 3 u), rset h 3 u⟩
/-- Which blocks are its own. -/
def own (g : Nat) (rg : Value) : Nat → Prop := fun k => k = g ∨ rg.ownBlock = some k
/-- Behind calls and stores into its own cells. -/
structure Did (g : Nat) (rg : Value) (w w' : World) : Prop where
  chg : Chg (own g rg) w w'
  kept : Kept w w'
theorem Did.refl (g : Nat) (rg : Value) (w : World) : Did g rg w w := ⟨Chg.refl _ _, fun _ _ _ _ _ h => h⟩
theorem Did.below {w1 : World} (d : Did g rg w w1) (hb : Below w1.heap.size w1 w') : Did g rg w w' := ⟨d.chg.trans (Chg.of_below hb), ViewD.Kept.trans d.kept (Kept.of_below hb)⟩
theorem Did.set {w1 : World} (d : Did g rg w w1) (h : VC w1 g b sh wt rd rg B S W R G) (i : Nat) (u : Value) : Did g rg w (w1.setCell ⟨g, i, none⟩ u) :=
  ⟨d.chg.setCell (.inl (.inl rfl)) u, ViewD.Kept.trans d.kept (kset h i u)⟩
end
variable {w : World} {g : Nat} {b sh wt rd rg : Value} {B S W R : List Pr} {G : List (ByteArray × ByteArray)}

/-! ### the methods -/
set_option maxRecDepth 100000 in
set_option maxHeartbeats 1000000 in
theorem look_calls (k : ByteArray) (h : VC w g b sh wt rd rg B S W R G) (hl : S.length ≤ 50000) :
    Calls Try.prog 21 #[.pointer (some ⟨g, 0, none⟩), .string k] w fun e w' => e = .returned (GotV (getL k S)) ∧ w = w' := by
  have HG := Lib.hid (tnget k h.shown hl)
  obtain ⟨_, c1, _, _, _, _⟩ := h.cells
  clear h
  cases hG : getL k S with
  | none =>
    rw [hG] at HG
    go_enter Try.func21, Try.ntmps21
    go_wp2_with (go_at_call 18; refine HG.out.mono ?_; rintro e w1 ⟨rfl, rfl⟩; dsimp only [GotV])
    go_ret2
    exact ⟨rfl, rfl⟩
  | some p =>
    rw [hG] at HG
    go_enter Try.func21, Try.ntmps21
    go_wp2_with (go_at_call 18; refine HG.out.mono ?_; rintro e w1 ⟨rfl, rfl⟩; dsimp only [GotV])
    go_ret2
    exact ⟨rfl, rfl⟩
set_option maxRecDepth 100000 in
set_option maxHeartbeats 1000000 in
theorem get_calls (k : ByteArray) (h : VC w g b sh wt rd rg B S W R G) (hl : S.length ≤ 50000) (hr : R.length ≤ 50000) :
    Calls Try.prog 20 #[.pointer (some ⟨g, 0, none⟩), .string k] w fun e w' => ∃ rd', e = .returned (GotV (getL k S)) ∧ VC w' g b sh wt rd' rg B S W (putL k ⟨#[]⟩ R) G ∧ Did g rg w w' := by
  have HS := Lib.hid (tnset k ⟨#[]⟩ h.read hr)
  obtain ⟨_, c1, _, c3, _, f3⟩ := h.cells
  have HV := Lib.hid h
  clear h f3
  obtain ⟨o, ho⟩ : ∃ o, getL k S = o := ⟨_, rfl⟩
  have HO := Lib.hid ho
  clear ho
  go_enter Try.func20, Try.ntmps20
  go_wp2_with (go_at_call 27; refine HS.out.mono ?_; rintro e w1 ⟨rd', rfl, hrd, hb1⟩; obtain ⟨A1, rfl⟩ := hrd.form; have HV1 := Lib.hid (HV.out.below hb1); have HV2 := Lib.hid (HV1.out.put3 hrd); have HD := Lib.hid (((Did.refl g rg w).below hb1).set HV1.out 3 (.pointer A1)); obtain ⟨k0, k1, k2, k3, k4, k5⟩ := HV1.out.cells; have f3 := k5 3; clear hrd hb1 k5)
  refine (look_calls k HV2.out hl).mono ?_
  rintro e w2 ⟨rfl, rfl⟩
  rw [HO.out]
  cases o with
  | none =>
    dsimp only [GotV]
    go_wp2_with fail
    go_ret2
    exact ⟨_, by rw [HO.out]; rfl, HV2.out, HD.out⟩
  | some p =>
    dsimp only [GotV]
    go_wp2_with fail
    go_ret2
    exact ⟨_, by rw [HO.out]; rfl, HV2.out, HD.out⟩
/-- Is there room for a write? -/
def roomB (k : ByteArray) (W : List Pr) : Bool := (getL k W).isSome || decide (W.length < 48)
set_option maxRecDepth 100000 in
set_option maxHeartbeats 1000000 in
theorem room_calls (k : ByteArray) (h : VC w g b sh wt rd rg B S W R G) (hl : W.length ≤ 50000) :
    Calls Try.prog 35 #[.pointer (some ⟨g, 0, none⟩), .string k] w fun e w' => e = .returned (.bool (roomB k W)) ∧ w = w' := by
  have HG := Lib.hid (tnget k h.wr hl)
  have HL := Lib.hid (tnlen h.wr hl)
  obtain ⟨n, hn⟩ : ∃ n, W.length = n := ⟨_, rfl⟩
  rw [hn] at HL hl
  have HN := Lib.hid hn
  obtain ⟨_, _, c2, _, _, _⟩ := h.cells
  clear h hn
  unfold roomB
  rw [HN.out]
  cases hG : getL k W with
  | none =>
    rw [hG] at HG
    clear hG
    by_cases h48 : n < 48
    · have d : decide (n < 48) = true := decide_eq_true h48
      have d2 : decide ((n : Int) < 48) = true := decide_eq_true (by omega)
      rw [d]
      clear d
      go_enter Try.func35, Try.ntmps35
      go_wp2_with (first
        | (go_at_call 18; refine HG.out.mono ?_; rintro e w1 ⟨rfl, rfl⟩; dsimp only [GotV])
        | (go_at_call 15; refine HL.out.mono ?_; rintro e w1 ⟨rfl, rfl⟩))
      go_ret
      exact ⟨by simp [d2], rfl⟩
    · have d : decide (n < 48) = false := decide_eq_false h48
      have d2 : decide ((n : Int) < 48) = false := decide_eq_false (by omega)
      rw [d]
      clear d
      go_enter Try.func35, Try.ntmps35
      go_wp2_with (first
        | (go_at_call 18; refine HG.out.mono ?_; rintro e w1 ⟨rfl, rfl⟩; dsimp only [GotV])
        | (go_at_call 15; refine HL.out.mono ?_; rintro e w1 ⟨rfl, rfl⟩))
      go_ret
      exact ⟨by simp [d2], rfl⟩
  | some p =>
    rw [hG] at HG
    clear hG
    go_enter Try.func35, Try.ntmps35
    go_wp2_with (first
      | (go_at_call 18; refine HG.out.mono ?_; rintro e w1 ⟨rfl, rfl⟩; dsimp only [GotV])
      | (go_at_call 15; refine HL.out.mono ?_; rintro e w1 ⟨rfl, rfl⟩))
    go_ret
    exact ⟨by simp, rfl⟩
theorem room_is (k : ByteArray) {r : Bool} (hr : roomB k W = r) (h : VC w g b sh wt rd rg B S W R G) (hl : W.length ≤ 50000) :
    Calls Try.prog 35 #[.pointer (some ⟨g, 0, none⟩), .string k] w fun e w' => e = .returned (.bool r) ∧ w = w' := by
  subst hr
  exact room_calls k h hl
set_option maxRecDepth 100000 in
set_option maxHeartbeats 1000000 in
theorem set_no (k x : ByteArray) (h : VC w g b sh wt rd rg B S W R G) (hl : W.length ≤ 50000) (hr : roomB k W = false) :
    Calls Try.prog 16 #[.pointer (some ⟨g, 0, none⟩), .string k, .string x] w fun e w' => e = .returned (.bool false) ∧ w = w' := by
  have HR := Lib.hid (room_is k hr h hl)
  clear h hr
  go_enter Try.func16, Try.ntmps16
  go_wp2_with (go_at_call 35; refine HR.out.mono ?_; rintro e w1 ⟨rfl, rfl⟩)
  go_ret
  exact ⟨rfl, rfl⟩
set_option maxRecDepth 100000 in
set_option maxHeartbeats 1000000 in
theorem set_yes (k x : ByteArray) (h : VC w g b sh wt rd rg B S W R G) (hs : S.length ≤ 50000) (hl : W.length ≤ 50000) (hr : roomB k W = true) :
    Calls Try.prog 16 #[.pointer (some ⟨g, 0, none⟩), .string k, .string x] w fun e w' => ∃ sh' wt', e = .returned (.bool true) ∧ VC w' g b sh' wt' rd rg B (putL k x S) (putL k ⟨#[]⟩ W) R G ∧ Did g rg w w' := by
  have HR := Lib.hid (room_is k hr h hl)
  have HS := Lib.hid (tnset k x h.shown hs)
  have HV := Lib.hid h
  obtain ⟨_, c1, _, _, _, _⟩ := h.cells
  clear h hr
  go_enter Try.func16, Try.ntmps16
  go_wp2_with (first
    | (go_at_call 35; refine HR.out.mono ?_; rintro e w1 ⟨rfl, rfl⟩)
    | (go_at_call 27; (with_reducible refine HS.out.mono ?_); rintro e w1 ⟨sh', rfl, hsh, hb1⟩; obtain ⟨A1, rfl⟩ := hsh.form; have HV1 := Lib.hid (HV.out.below hb1); have HV2 := Lib.hid (HV1.out.put1 hsh); have HD := Lib.hid (((Did.refl g rg w).below hb1).set HV1.out 1 (.pointer A1)); obtain ⟨k0, k1, k2, k3, k4, k5⟩ := HV1.out.cells; have f1 := k5 1; clear hsh hb1 k5)
    | (go_at_call 27; refine (tnset k ⟨#[]⟩ HV2.out.wr hl).mono ?_; rintro e w2 ⟨wt', rfl, hwt, hb2⟩; obtain ⟨A2, rfl⟩ := hwt.form; have HV3 := Lib.hid (HV2.out.below hb2); have HV4 := Lib.hid (HV3.out.put2 hwt); have HD2 := Lib.hid ((HD.out.below hb2).set HV3.out 2 (.pointer A2)); obtain ⟨m0, m1, m2, m3, m4, m5⟩ := HV3.out.cells; have f2 := m5 2; clear hwt hb2 m5))
  go_ret
  exact ⟨_, _, rfl, HV4.out, HD2.out⟩
set_option maxRecDepth 100000 in
set_option maxHeartbeats 1000000 in
theorem cut_no (k : ByteArray) (h : VC w g b sh wt rd rg B S W R G) (hl : W.length ≤ 50000) (hr : roomB k W = false) :
    Calls Try.prog 19 #[.pointer (some ⟨g, 0, none⟩), .string k] w fun e w' => e = .returned (.bool false) ∧ w = w' := by
  have HR := Lib.hid (room_is k hr h hl)
  clear h hr
  go_enter Try.func19, Try.ntmps19
  go_wp2_with (go_at_call 35; refine HR.out.mono ?_; rintro e w1 ⟨rfl, rfl⟩)
  go_ret
  exact ⟨rfl, rfl⟩
set_option maxRecDepth 100000 in
set_option maxHeartbeats 1000000 in
theorem cut_yes (k : ByteArray) (p : Pr) (hB : getL k B = some p) (h : VC w g b sh wt rd rg B S W R G) (hb : B.length ≤ 50000) (hs : S.length ≤ 50000) (hl : W.length ≤ 50000) (hr : roomB k W = true) :
    Calls Try.prog 19 #[.pointer (some ⟨g, 0, none⟩), .string k] w fun e w' => ∃ sh' wt', e = .returned (.bool true) ∧ VC w' g b sh' wt' rd rg B (cutL k S) (putL k ⟨#[]⟩ W) R G ∧ Did g rg w w' := by
  have HR := Lib.hid (room_is k hr h hl)
  have HS := Lib.hid (tncut k h.shown hs)
  have HV := Lib.hid h
  have HB := Lib.hid hB
  obtain ⟨_, c1, _, _, _, _⟩ := h.cells
  clear h hr hB
  go_enter Try.func19, Try.ntmps19
  go_wp2_with (first
    | (go_at_call 35; refine HR.out.mono ?_; rintro e w1 ⟨rfl, rfl⟩)
    | (go_at_call 38; (with_reducible refine HS.out.mono ?_); rintro e w1 ⟨sh', rfl, hsh, hb1⟩; obtain ⟨A1, rfl⟩ := hsh.form; have HV1 := Lib.hid (HV.out.below hb1); have HV2 := Lib.hid (HV1.out.put1 hsh); have HD := Lib.hid (((Did.refl g rg w).below hb1).set HV1.out 1 (.pointer A1)); obtain ⟨k0, k1, k2, k3, k4, k5⟩ := HV1.out.cells; have f1 := k5 1; have hgb := tnget k HV2.out.base hb; rw [HB.out] at hgb; have HGB := Lib.hid hgb; clear hsh hb1 k5 hgb)
    | (go_at_call 18; refine HGB.out.mono ?_; rintro e w3 ⟨rfl, rfl⟩; dsimp only [GotV])
    | (go_at_call 27; refine (tnset k ⟨#[]⟩ HV2.out.wr hl).mono ?_; rintro e w2 ⟨wt', rfl, hwt, hb2⟩; obtain ⟨A2, rfl⟩ := hwt.form; have HV3 := Lib.hid (HV2.out.below hb2); have HV4 := Lib.hid (HV3.out.put2 hwt); have HD2 := Lib.hid ((HD.out.below hb2).set HV3.out 2 (.pointer A2)); obtain ⟨m0, m1, m2, m3, m4, m5⟩ := HV3.out.cells; have f2 := m5 2; clear hwt hb2 m5))
  go_ret
  exact ⟨_, _, rfl, HV4.out, HD2.out⟩
set_option maxRecDepth 100000 in
set_option maxHeartbeats 1000000 in
theorem cut_new (k : ByteArray) (hB : getL k B = none) (h : VC w g b sh wt rd rg B S W R G) (hb : B.length ≤ 50000) (hs : S.length ≤ 50000) (hl : W.length ≤ 50000) (hr : roomB k W = true) :
    Calls Try.prog 19 #[.pointer (some ⟨g, 0, none⟩), .string k] w fun e w' => ∃ sh' wt', e = .returned (.bool true) ∧ VC w' g b sh' wt' rd rg B (cutL k S) (cutL k W) R G ∧ Did g rg w w' := by
  have HR := Lib.hid (room_is k hr h hl)
  have HS := Lib.hid (tncut k h.shown hs)
  have HV := Lib.hid h
  have HB := Lib.hid hB
  obtain ⟨_, c1, _, _, _, _⟩ := h.cells
  clear h hr hB
  go_enter Try.func19, Try.ntmps19
  go_wp2_with (first
    | (go_at_call 35; refine HR.out.mono ?_; rintro e w1 ⟨rfl, rfl⟩)
    | (go_at_call 38; (with_reducible refine HS.out.mono ?_); rintro e w1 ⟨sh', rfl, hsh, hb1⟩; obtain ⟨A1, rfl⟩ := hsh.form; have HV1 := Lib.hid (HV.out.below hb1); have HV2 := Lib.hid (HV1.out.put1 hsh); have HD := Lib.hid (((Did.refl g rg w).below hb1).set HV1.out 1 (.pointer A1)); obtain ⟨k0, k1, k2, k3, k4, k5⟩ := HV1.out.cells; have f1 := k5 1; have hgb := tnget k HV2.out.base hb; rw [HB.out] at hgb; have HGB := Lib.hid hgb; clear hsh hb1 k5 hgb)
    | (go_at_call 18; refine HGB.out.mono ?_; rintro e w3 ⟨rfl, rfl⟩; dsimp only [GotV])
    | (go_at_call 38; (with_reducible refine (tncut k HV2.out.wr hl).mono ?_); rintro e w2 ⟨wt', rfl, hwt, hb2⟩; obtain ⟨A2, rfl⟩ := hwt.form; have HV3 := Lib.hid (HV2.out.below hb2); have HV4 := Lib.hid (HV3.out.put2 hwt); have HD2 := Lib.hid ((HD.out.below hb2).set HV3.out 2 (.pointer A2)); obtain ⟨m0, m1, m2, m3, m4, m5⟩ := HV3.out.cells; have f2 := m5 2; clear hwt hb2 m5))
  go_ret
  exact ⟨_, _, rfl, HV4.out, HD2.out⟩
set_option maxRecDepth 100000 in
set_option maxHeartbeats 1000000 in
theorem reads_calls (h : VC w g b sh wt rd rg B S W R G) (hr : R.length ≤ 2000) :
    Calls Try.prog 23 #[.pointer (some ⟨g, 0, none⟩)] w (KeysR R w) := by
  have HK := Lib.hid (keysof_calls rd R w h.read hr)
  obtain ⟨_, _, _, c3, _, _⟩ := h.cells
  clear h
  go_enter Try.func23, Try.ntmps23
  go_wp2_with (go_at_call 36; refine HK.out.mono ?_; rintro e w1 ⟨v, rfl, ho, hb⟩; have HO := Lib.hid ho; have HB := Lib.hid hb; clear ho hb)
  go_ret
  exact ⟨_, rfl, HO.out, HB.out⟩
set_option maxRecDepth 100000 in
set_option maxHeartbeats 1000000 in
theorem ranges_calls (h : VC w g b sh wt rd rg B S W R G) (hr : G.length ≤ 2000) :
    Calls Try.prog 24 #[.pointer (some ⟨g, 0, none⟩)] w (CloneR G w) := by
  obtain ⟨_, _, _, _, c4, _⟩ := h.cells
  obtain ⟨A, c, e, _, _, h0⟩ := Tx.So.head h.rgs
  have hs : Sl rgE w A G.length G := So.sl (by rw [← e]; exact h.rgs)
  have HK := Lib.hid (clone_calls A G.length c G w hs (by omega) h0)
  rw [e] at c4
  clear h hs
  go_enter Try.func24, Try.ntmps24
  go_wp2_with (go_at_call 32; refine HK.out.mono ?_; rintro e w1 ⟨v, rfl, ho, hb⟩; have HO := Lib.hid ho; have HB := Lib.hid hb; clear ho hb)
  go_ret
  exact ⟨_, rfl, HO.out, HB.out⟩
end Go.Proofs.Ytdnenikplajmaaa.ViewKs
