/- The walk of layer 8's law ScanBytes, over what the project's functions are asked. -/
import Derived.Test.YthbafcihmcjchaaDoorScanO
import Derived.Test.YthbafcihmcjchaaDoorScanP
import Derived.Deep.RegionHeld3
import Derived.Deep.RegionHeld
namespace Go.Proofs.YthbafcihmcjchaaDoor.ScanB
set_option linter.unusedVariables false
set_option linter.unusedSimpArgs false
open Go.RowKit
open Go.Proofs.YthbafcihmcjchaaDoor.Byte Go.Proofs.YthbafcihmcjchaaDoor.PlaceM Go.Proofs.YthbafcihmcjchaaDoor.PlaceV Go.Proofs.YthbafcihmcjchaaDoor.RecM Go.Proofs.YthbafcihmcjchaaDoor.RingM Go.Proofs.YthbafcihmcjchaaDoor.RingN Go.Proofs.YthbafcihmcjchaaDoor.RingX Go.Proofs.YthbafcihmcjchaaDoor.RingK Go.Proofs.YthbafcihmcjchaaDoor.RingF Go.Proofs.YthbafcihmcjchaaDoor.RingS Go.Proofs.YthbafcihmcjchaaDoor.ScanM Go.Proofs.YthbafcihmcjchaaDoor.ScanO Go.Proofs.YthbafcihmcjchaaDoor.ScanP Go.Proofs.YthbafcihmcjchaaDoor.Own

/-- What the laws ask of the project's Of and Next. -/
def OfOk : Prop := ∀ (n z : Int) (A : Option Addr) (m c k : Nat) (xs : List Int) (w : World), Bs w A m xs → m ≤ c → m ≤ 5000 → k ≤ 255 → PlaceH.Nowhere w →
  Calls Tryd.prog 7 #[.agg #[.int .i64 n, .int .i64 z], .int .i64 k, .slice A m c] w (SecE (cl n z xs) (en n z xs k) (fu n z xs k) (fo n z xs k) w)
def NextOk : Prop := ∀ w : World, Calls Tryd.prog 10 #[.slice none 0 0] w fun e w' => e = .returned (.int .u64 1) ∧ Below w.heap.size w w'
theorem SecE.at_ {c e : Int} {f : Bool} {L : List Fnd} {w w' : World} {en : Ending} (h : SecE c e f L w en w') : ∃ A p, en = .returned (.agg #[.int .i64 c, .int .i64 e, .bool f, .slice A L.length p]) ∧ FsAt w' A L.length L ∧ Below w.heap.size w w' := by
  obtain ⟨v, h1, h2, h3⟩ := h
  rcases h2.2 with ⟨h4, h5⟩ | ⟨g, cap, cur, h4, _⟩
  · obtain rfl : L = [] := List.eq_nil_of_length_eq_zero h5
    exact ⟨none, 0, by rw [h1, h4]; rfl, FsAt.nil_ _ _, h3⟩
  · subst h4
    have hfo : Fo w' w.heap.size g L.length cap L := ⟨rfl, h2⟩
    exact ⟨_, cap, h1, hfo.fs, h3⟩
theorem order_self {x : Nat} (h : rt x = true) : FloatKind.f64.format.order x x = some .eq := by
  cases e : fv x with
  | none =>
    unfold rt at h
    rw [e] at h
    cases h
  | some a => exact PlaceG.same_order e
/-- No place of what is found is NaN. -/
theorem rf_fnd {xs : List Int} (hb : ∀ x ∈ xs, 0 ≤ x ∧ x ≤ 255) (k a : Nat) (hk : k ≤ 1000000) (ha : a ≤ 1000000) (hg : gerr (cr xs a) = 0) : Rf (fnd xs k a) := by
  obtain ⟨hm, _⟩ := stood (cr_bd hb a) hg
  obtain ⟨h1, h2, _⟩ := hm
  refine ⟨PlaceG.order_fi _ (by omega) (by omega), PlaceG.order_fi _ (by omega) (by omega), ?_, ?_⟩
  · exact order_self h1
  · exact order_self h2
theorem rf_sc {xs : List Int} (hb : ∀ x ∈ xs, 0 ≤ x ∧ x ≤ 255) (hl : xs.length ≤ 1000000) (k : Nat) (hk : k ≤ 1000000) (a : Nat) : ∀ x ∈ (sc xs k a).1, Rf x := by
  generalize hn : xs.length - a = n
  induction n using Nat.strongRecOn generalizing a with
  | ind n ih =>
    cases ho : on xs a with
    | false =>
      rw [sc_off ho]
      simp
    | true =>
      obtain ⟨r, he, hle, hr⟩ := on_end ho
      have h1 := ih (xs.length - (a + 8 + r)) (by omega) (a + 8 + r) rfl
      rcases on_cases ho with h | ⟨h, hg⟩
      · rw [sc_skip h he]
        exact h1
      · rw [sc_one h hg he]
        intro x hx
        rcases List.mem_cons.1 hx with rfl | hx
        · exact rf_fnd hb k a hk (by omega) hg
        · exact h1 x hx
theorem rf_fo {n z : Int} {xs : List Int} (hb : ∀ x ∈ xs, 0 ≤ x ∧ x ≤ 255) (hl : xs.length ≤ 1000000) (k : Nat) (hk : k ≤ 1000000) : ∀ x ∈ fo n z xs k, Rf x := by
  unfold fo
  split
  · exact rf_sc hb hl k hk 8
  · simp
theorem info_lsec : (Tryd.prog.info? 29).map (·.size) = some 4 := by kernel_rfl
set_option maxHeartbeats 1000000 in
theorem of_calls (c e : Int) (f : Bool) (A : Option Addr) (n p : Nat) (w : World) : Calls Tryd.prog 6 #[.agg #[.int .i64 c, .int .i64 e, .bool f, .slice A n p]] w fun en w' => en = .returned (.agg #[.int .i64 c, .int .i64 e, .bool f, .slice A n p]) ∧ Below w.heap.size w w' := by
  go_enter Tryd.func6, Tryd.ntmps6
  go_wp2_with fail
  exact bodyPost_ret (v := .agg #[.int .i64 c, .int .i64 e, .bool f, .slice A n p]) (by simp [results, Tryd.results6, go_sem]) rfl ⟨rfl, ((Below.refl _ _).alloc (Nat.le_refl _) _).alloc (by simp) _⟩
/-- The law's package variable 'example' reads as six sectors of 512 bytes. -/
def Example (w : World) : Prop := 0 < w.heap.size ∧ w.cell? ⟨0, 0, none⟩ = some (.int .i64 6) ∧ w.cell? ⟨0, 1, none⟩ = some (.int .i64 512)
theorem Example.below {w w' : World} (h : Example w) (hb : Below w.heap.size w w') : Example w' :=
  ⟨Nat.lt_of_lt_of_le h.1 hb.size, (hb.cell (p := ⟨0, 0, none⟩) h.1).trans h.2.1, (hb.cell (p := ⟨0, 1, none⟩) h.1).trans h.2.2⟩
def FixedOk : Prop := ∀ w : World, Example w → PlaceH.Nowhere w → Calls Tryd.prog 4 #[] w fun e w' => e = .returned (.bool true) ∧ Below w.heap.size w w'
theorem SecE.named {c e : Int} {f : Bool} {L : List Fnd} {N : Nat} {w w' : World} {en : Ending} (h : SecE c e f L w en w') (hN : L.length = N) : ∃ A p, en = .returned (.agg #[.int .i64 c, .int .i64 e, .bool f, .slice A N p]) ∧ FsAt w' A N L ∧ Below w.heap.size w w' := by
  subst hN
  exact SecE.at_ h
set_option maxRecDepth 100000 in
set_option maxHeartbeats 4000000 in
theorem bytes_law (hX : FixedOk) (hO : OfOk) (n z : Int) (A : Option Addr) (m c : Nat) (xs : List Int) (w : World) (hb : Bs w A m xs) (hc : m ≤ c) (hm : m ≤ maxLen) (hE : Example w) (hN : PlaceH.Nowhere w) :
    Calls Tryd.prog 3 #[.agg #[.int .i64 n, .int .i64 z], .slice A m c] w fun e w' => e = .returned (.bool true) ∧ Below w.heap.size w w' := by
  unfold maxLen at hm
  obtain ⟨W, hW⟩ : ∃ W, w.alloc (.cells #[.int .i64 n, .int .i64 z] 23) = W := ⟨_, rfl⟩
  have hbW : Below w.heap.size w W := by rw [← hW]; exact (Below.refl _ _).alloc (Nat.le_refl _) _
  have hA : Blk W w.heap.size #[.int .i64 n, .int .i64 z] 23 := by rw [← hW]; exact Blk.new_ _ _ _
  have HBW := Lib.hid hbW
  have HX := Lib.hid (fun v (hv : Below W.heap.size W v) => hX v (hE.below (keeps hbW hv)) (hN.below (keeps hbW hv)))
  have HW := Lib.hid hW
  by_cases hbig : 5000 < m
  · have d : decide (5000 < (m : Int)) = true := by simp; omega
    clear hb hE hN hA hbW hW
    go_enter Tryd.func3, Tryd.ntmps3
    go_wp2_with fail
    rw [HW.out]
    refine (HX.out _ (Below.refl _ _)).mono ?_
    rintro e w1 ⟨rfl, hb1⟩
    have HB1 := Lib.hid (keeps HBW.out hb1)
    clear hb1
    go_wp2_with fail
    go_ret
    exact ⟨rfl, HB1.out⟩
  · have d : decide (5000 < (m : Int)) = false := by simp; omega
    have HO := Lib.hid (fun v (hv : Below W.heap.size W v) => hO n z A m c 0 xs v (hb.below (keeps hbW hv)) hc (by omega) (by omega) (hN.below (keeps hbW hv)))
    have HR := Lib.hid (fun v (hv : Below W.heap.size W v) => ScanO.refof_calls n z A m c 0 xs v (hb.below (keeps hbW hv)) hc (by omega) (by omega))
    have hrf := rf_fo (n := n) (z := z) hb.2.1 (by rw [hb.len]; omega) 0 (by omega)
    have hfl : (fo n z xs ((0 : Nat) : Int)).length ≤ 1000000 := by
      unfold fo
      split
      · have := sc_few xs ((0 : Nat) : Int) 8
        have := hb.len
        omega
      · simp
    obtain ⟨cc, hcc⟩ : ∃ x, cl n z xs = x := ⟨_, rfl⟩
    obtain ⟨ee, hee⟩ : ∃ x, en n z xs ((0 : Nat) : Int) = x := ⟨_, rfl⟩
    obtain ⟨ff, hff⟩ : ∃ x, fu n z xs ((0 : Nat) : Int) = x := ⟨_, rfl⟩
    obtain ⟨L, hL⟩ : ∃ x, fo n z xs ((0 : Nat) : Int) = x := ⟨_, rfl⟩
    rw [hcc, hee, hff, hL] at HO HR
    rw [hL] at hrf hfl
    obtain ⟨N, hNl⟩ : ∃ N, L.length = N := ⟨_, rfl⟩
    rw [hNl] at hfl
    have HRF := Lib.hid hrf
    have HNL := Lib.hid hNl
    have g0 : W.cell? ⟨w.heap.size, 0, none⟩ = some (.int .i64 n) := hA.cell 0
    have g1 : W.cell? ⟨w.heap.size, 1, none⟩ = some (.int .i64 z) := hA.cell 1
    have hAl := hA.lt
    have RD : Hid (∀ v, Below W.heap.size W v → Below W.heap.size W v ∧ v.cell? ⟨w.heap.size, 0, none⟩ = some (.int .i64 n) ∧ v.cell? ⟨w.heap.size, 1, none⟩ = some (.int .i64 z)) := Lib.hid fun v hv => ⟨hv, (hv.cell (p := ⟨w.heap.size, 0, none⟩) hAl).trans g0, (hv.cell (p := ⟨w.heap.size, 1, none⟩) hAl).trans g1⟩
    clear hb hE hN hA hbW hcc hee hff hL hrf hNl hX hO
    go_enter Tryd.func3, Tryd.ntmps3
    go_wp2_with fail
    clear hW
    refine wp_region_noPanic ?_
    go_region_held (fun v => Below W.heap.size W v ∧ v.cell? ⟨w.heap.size, 0, none⟩ = some (.int .i64 n) ∧ v.cell? ⟨w.heap.size, 1, none⟩ = some (.int .i64 z))
      (first
        | exact RD.out _ (Below.refl _ _)
        | exact RD.out _ (by assumption)
        | exact RD.out _ (Below.drew (by assumption))
        | exact RD.out _ (Below.drew (Below.refl _ _))
        | exact RD.out _ (And.left (by assumption)))
      (first
        | (go_at_call 4; refine (HX.out _ (And.left (by assumption))).mono ?_; rintro e w5 ⟨rfl, hb5⟩; have hn5 : Below W.heap.size W w5 := keeps (And.left (by assumption)) hb5; clear hb5)
        | (go_at_call 7; refine (HO.out _ (And.left (by assumption))).mono ?_; intro e w6 hm6; obtain ⟨A6, p6, rfl, hf6, hb6⟩ := SecE.named hm6 HNL.out; have hn6 : Below W.heap.size W w6 := keeps (And.left (by assumption)) hb6; clear hm6 hb6)
        | (go_at_call 6; refine (of_calls cc ee ff A6 N p6 _).mono ?_; rintro e w7 ⟨rfl, hb7⟩; have hf7 := hf6.below hb7; have hn7 : Below W.heap.size W w7 := keeps (And.left (by assumption)) hb7; clear hb7)
        | (go_at_call 8; refine (HR.out _ (And.left (by assumption))).mono ?_; intro e w8 hm8; obtain ⟨A8, p8, rfl, hf8, hb8⟩ := SecE.named hm8 HNL.out; have hf78 := hf7.below hb8; have hn8 : Below W.heap.size W w8 := keeps (And.left (by assumption)) hb8; clear hm8 hb8)
        | (go_at_call 5; refine (samesector_calls cc ee ff A6 A8 N p6 p8 L _ hfl hf78 hf8 HRF.out).mono ?_; rintro e w9 ⟨rfl, hb9⟩; have hn9 : Below W.heap.size W w9 := keeps (And.left (by assumption)) hb9; clear hb9))
    refine NoPanic.normal ?_
    have HN9 := Lib.hid (keeps HBW.out hn9)
    clear hn5 hn6 hn7 hn8 hn9 hf6 hf7 hf8 hf78
    go_wp2_with fail
    go_ret
    exact ⟨rfl, HN9.out⟩
end Go.Proofs.YthbafcihmcjchaaDoor.ScanB
