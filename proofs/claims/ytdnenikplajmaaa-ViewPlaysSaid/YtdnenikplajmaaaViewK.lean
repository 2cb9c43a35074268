/- The landed view is all that the laws ask of it. -/
import Derived.Test.YtdnenikplajmaaaViewKw
import Derived.Test.YtdnenikplajmaaaViewP
import Derived.Test.YtdnenikplajmaaaViewN
namespace Go.Proofs.Ytdnenikplajmaaa.ViewK
set_option linter.unusedVariables false
set_option linter.unusedSimpArgs false
open Go.RowKit
open Go.Proofs.Ytdnenikplajmaaa.Byte Go.Proofs.Ytdnenikplajmaaa.KeysM Go.Proofs.Ytdnenikplajmaaa.TreeM Go.Proofs.Ytdnenikplajmaaa.ViewM Go.Proofs.Ytdnenikplajmaaa.ViewKm Go.Proofs.Ytdnenikplajmaaa.ViewKn Go.Proofs.Ytdnenikplajmaaa.ViewKr Go.Proofs.Ytdnenikplajmaaa.ViewKs Go.Proofs.Ytdnenikplajmaaa.ViewKw Go.Proofs.Ytdnenikplajmaaa.Own Go.Proofs.Ytdnenikplajmaaa.Rw Go.Proofs.Ytdnenikplajmaaa.Lst Go.Proofs.Ytdnenikplajmaaa.Chg Go.Proofs.Ytdnenikplajmaaa.TreeR Go.Proofs.Ytdnenikplajmaaa.TreeS Go.Proofs.Ytdnenikplajmaaa.TreeL Go.Proofs.Ytdnenikplajmaaa.TreeG Go.Proofs.Ytdnenikplajmaaa.TreeH Go.Proofs.Ytdnenikplajmaaa.Ho Go.Proofs.Ytdnenikplajmaaa.ViewR Go.Proofs.Ytdnenikplajmaaa.ViewG Go.Proofs.Ytdnenikplajmaaa.ViewL Go.Proofs.Ytdnenikplajmaaa.ViewP Go.Proofs.Ytdnenikplajmaaa.ViewN

/-- The landed view stands so. -/
def VRep (w : World) (v : Value) (s : Vs) (S D : Nat → Prop) : Prop := ∃ (g : Nat) (b sh wt rd rg : Value), v = .pointer (some ⟨g, 0, none⟩) ∧ VC w g b sh wt rd rg s.base s.shown (kys s.wr) s.rd s.rg ∧ s.Ok ∧ Bare s.wr ∧ S = own g rg ∧ D = own g rg
theorem stays : Stays VRep where
  stay := by
    rintro w w' v s S D T ⟨g, b, sh, wt, rd, rg, rfl, hv, h1, h2, rfl, rfl⟩ hc hT hk
    exact ⟨g, b, sh, wt, rd, rg, rfl, hv.stay hc hk (fun h => hT g h (.inl rfl)) (fun k hk' h => hT k h (.inr hk')), h1, h2, rfl, rfl⟩
  ok := by
    rintro w v s S D ⟨g, b, sh, wt, rd, rg, rfl, hv, h1, h2, rfl, rfl⟩
    exact h1
  lt := by
    rintro w v s S D ⟨g, b, sh, wt, rd, rg, rfl, hv, h1, h2, rfl, rfl⟩ q hq
    rcases hq with rfl | hq
    · exact hv.lt
    · exact (hv.rgs.lt hq).2
  sub := by
    rintro w v s S D ⟨g, b, sh, wt, rd, rg, rfl, hv, h1, h2, rfl, rfl⟩ q hq
    exact hq
theorem lens {s : Vs} (h : Lim s) (ho : s.Ok) : s.base.length ≤ 2000 ∧ s.shown.length ≤ 50000 ∧ s.wr.length ≤ 2000 ∧ (kys s.wr).length ≤ 50000 ∧ s.rd.length ≤ 2000 ∧ s.rg.length ≤ 2000 := by
  have h1 := h.base
  have h2 := h.rd
  have h3 := h.rg
  have h4 := ho.lw
  have h5 : s.shown.length ≤ s.base.length + s.wr.length := shown_len s.base s.wr
  refine ⟨by omega, by omega, by omega, by rw [kys_len]; omega, by omega, by omega⟩
theorem room_full (s : Vs) (k x : ByteArray) (gn : Bool) : roomB k (kys s.wr) = !fullW s.wr ⟨k, x, gn⟩ := by
  unfold roomB fullW
  rw [kys_in, kys_len]
  dsimp only
  cases inW k s.wr with
  | true => rfl
  | false =>
    by_cases h : s.wr.length < 48
    · rw [decide_eq_true h, decide_eq_false (by omega)]
      rfl
    · rw [decide_eq_false h, decide_eq_true (by omega)]
      rfl
theorem stp {g : Nat} {rg : Value} {w w' : World} (d : Did g rg w w') : Stp (own g rg) (own g rg) (own g rg) (own g rg) w w' := ⟨d.chg, d.kept, Grow.refl _ _, Grow.refl _ _⟩
theorem own_new {w : World} {g : Nat} {rg rg' : Value} (h : RgTo w rg rg') : Grow w (own g rg) (own g rg') := fun b hb => by
  rcases hb with rfl | hb
  · exact .inl (.inl rfl)
  · rcases h with h | ⟨k, h1, h2⟩
    · exact .inl (.inr (by rw [← h]; exact hb))
    · rw [h1] at hb
      injection hb with hb
      exact .inr (by omega)
theorem sh_of {α : Type} {e : Enc α} {T : TypeId} {w : World} {base : Nat} {v : Value} {L : List α} (h : So e T w base v L.length L) : ∃ r : Sh, v = .slice r.a r.n r.c ∧ Sl e w r.a r.n L ∧ ∀ b o, r.a = some ⟨b, o, none⟩ → base ≤ b := by
  rcases h.form with ⟨rfl, h0⟩ | ⟨g, cap, rfl, h1, _⟩
  · refine ⟨⟨none, 0, 0⟩, rfl, ?_, fun b o e => by cases e⟩
    have := List.eq_nil_of_length_eq_zero h0
    subst this
    exact Sl.nil_ _ _ _
  · exact ⟨⟨some ⟨g, 0, none⟩, L.length, cap⟩, rfl, So.sl h, fun b o e => by injection e with e; injection e with e; omega⟩
theorem views : Vws VRep where
  stays := stays
  new := by
    intro w t L h hr hl
    refine (new_calls t w (TN.of hr)).mono ?_
    rintro e w' ⟨rfl, hv, hb⟩
    have hw : ∀ q, own w.heap.size (.slice none 0 0) q → w.heap.size ≤ q := fun q hq => by
      rcases hq with rfl | hq
      · exact Nat.le_refl _
      · cases hq
    exact ⟨_, _, _, rfl, ⟨_, _, _, _, _, _, rfl, hv, ⟨trise hr, List.Pairwise.nil, List.Pairwise.nil, Nat.zero_le _⟩, Bare.nil, rfl, rfl⟩, hw, hw, hb⟩
  get := by
    rintro w v s S D k ⟨g, b, sh, wt, rd, rg, rfl, hv, h1, h2, rfl, rfl⟩ hl hk
    obtain ⟨l1, l2, l3, l4, l5, l6⟩ := lens hl h1
    refine (get_calls k hv l2 (by omega)).mono ?_
    rintro e w' ⟨rd', rfl, hv', hd⟩
    exact ⟨_, _, rfl, ⟨g, b, sh, wt, rd', rg, rfl, by rw [put_putP] at hv'; exact hv', ok_read h1 k, h2, rfl, rfl⟩, stp hd⟩
  look := by
    rintro w v s S D k ⟨g, b, sh, wt, rd, rg, rfl, hv, h1, h2, rfl, rfl⟩ hl hk
    obtain ⟨l1, l2, l3, l4, l5, l6⟩ := lens hl h1
    refine (look_calls k hv l2).mono ?_
    rintro e w' ⟨rfl, rfl⟩
    exact ⟨_, _, rfl, ⟨g, b, sh, wt, rd, rg, rfl, hv, h1, h2, rfl, rfl⟩, stp (Did.refl _ _ _)⟩
  range := by
    rintro w v s S D x y ⟨g, b, sh, wt, rd, rg, rfl, hv, h1, h2, rfl, rfl⟩ hl hx hy
    obtain ⟨l1, l2, l3, l4, l5, l6⟩ := lens hl h1
    have key : ∀ (G : List (ByteArray × ByteArray)) (L : List Pr), (s.ranged x y).rg = G → s.rangeOf x y = L → Calls Try.prog 22 #[.pointer (some ⟨g, 0, none⟩), .string x, .string y] w (RangeR g b sh wt rd rg s.base s.shown (kys s.wr) s.rd G L w) → Calls Try.prog 22 #[.pointer (some ⟨g, 0, none⟩), .string x, .string y] w fun e w' => ∃ (r : Sh) (S' D' : Nat → Prop), e = .returned (.slice r.a r.n r.c) ∧ Sl prE w' r.a r.n (s.rangeOf x y) ∧ (0 < r.n → NewA w r) ∧ VRep w' (.pointer (some ⟨g, 0, none⟩)) (s.ranged x y) S' D' ∧ Stp (own g rg) (own g rg) S' D' w w' := by
      intro G L hG hL hc
      refine hc.mono ?_
      rintro e w' ⟨u, rg', rfl, ho, hv', hd, hto⟩
      obtain ⟨r, rfl, hsl, hnew⟩ := sh_of ho
      refine ⟨r, _, _, rfl, by rw [hL]; exact hsl, fun _ => fun b o e => hnew b o e, ⟨g, b, sh, wt, rd, rg', rfl, ?_, ok_ranged h1 x y, ?_, rfl, rfl⟩, hd.chg, hd.kept, own_new hto, own_new hto⟩
      · rw [hG]
        have e1 : (s.ranged x y).base = s.base ∧ (s.ranged x y).shown = s.shown ∧ (s.ranged x y).wr = s.wr ∧ (s.ranged x y).rd = s.rd := by
          unfold Vs.ranged
          split <;> exact ⟨rfl, rfl, rfl, rfl⟩
        rw [e1.1, e1.2.1, e1.2.2.1, e1.2.2.2]
        exact hv'
      · have e1 : (s.ranged x y).wr = s.wr := by
          unfold Vs.ranged
          split <;> rfl
        rw [e1]
        exact h2
    cases hk : kl x y with
    | false =>
      refine key s.rg [] ?_ ?_ (range_none x y hv hk)
      · unfold Vs.ranged
        rw [hk]
        rfl
      · unfold Vs.rangeOf
        rw [hk]
        rfl
    | true =>
      cases hh : hasR x y s.rg with
      | true =>
        refine key s.rg (rangeL x y s.shown) ?_ ?_ (range_old x y hv l2 (by omega) hk hh)
        · unfold Vs.ranged addR
          rw [hk, hh]
          rfl
        · unfold Vs.rangeOf
          rw [hk]
          rfl
      | false =>
        refine key (s.rg ++ [(x, y)]) (rangeL x y s.shown) ?_ ?_ (range_new x y hv l2 (by omega) hk hh)
        · unfold Vs.ranged addR
          rw [hk, hh]
          rfl
        · unfold Vs.rangeOf
          rw [hk]
          rfl
  set := by
    rintro w v s S D k x ⟨g, b, sh, wt, rd, rg, rfl, hv, h1, h2, rfl, rfl⟩ hl hk hx
    obtain ⟨l1, l2, l3, l4, l5, l6⟩ := lens hl h1
    have hrf := room_full s k x false
    cases hf : fullW s.wr ⟨k, x, false⟩ with
    | true =>
      rw [hf] at hrf
      refine (set_no k x hv l4 hrf).mono ?_
      rintro e w' ⟨rfl, rfl⟩
      have e1 : s.write ⟨k, x, false⟩ = s := by
        unfold Vs.write
        rw [hf]
        rfl
      rw [e1]
      exact ⟨_, _, rfl, ⟨g, b, sh, wt, rd, rg, rfl, hv, h1, h2, rfl, rfl⟩, stp (Did.refl _ _ _)⟩
    | false =>
      rw [hf] at hrf
      refine (set_yes k x hv l2 l4 hrf).mono ?_
      rintro e w' ⟨sh', wt', rfl, hv', hd⟩
      have e1 : s.write ⟨k, x, false⟩ = { s with wr := writeW s.base s.wr ⟨k, x, false⟩ } := by
        unfold Vs.write
        rw [hf]
        rfl
      have hok := ok_write h1 ⟨k, x, false⟩
      rw [e1] at hok ⊢
      refine ⟨_, _, rfl, ⟨g, b, sh', wt', rd, rg, rfl, ?_, hok, h2.write (B := s.base) (p := ⟨k, x, false⟩) (fun h => by cases h), rfl, rfl⟩, stp hd⟩
      have e2 : shownL s.base (writeW s.base s.wr ⟨k, x, false⟩) = putL k x s.shown := shown_write h1.base h1.wr ⟨k, x, false⟩
      have e3 : kys (writeW s.base s.wr ⟨k, x, false⟩) = putL k ⟨#[]⟩ (kys s.wr) := by rw [put_is, kys_put]
      show VC w' g b sh' wt' rd rg s.base (shownL s.base (writeW s.base s.wr ⟨k, x, false⟩)) (kys (writeW s.base s.wr ⟨k, x, false⟩)) s.rd s.rg
      rw [e2, e3]
      exact hv'
  cut := by
    rintro w v s S D k ⟨g, b, sh, wt, rd, rg, rfl, hv, h1, h2, rfl, rfl⟩ hl hk
    obtain ⟨l1, l2, l3, l4, l5, l6⟩ := lens hl h1
    have hrf := room_full s k ⟨#[]⟩ true
    cases hf : fullW s.wr ⟨k, ⟨#[]⟩, true⟩ with
    | true =>
      rw [hf] at hrf
      refine (cut_no k hv l4 hrf).mono ?_
      rintro e w' ⟨rfl, rfl⟩
      have e1 : s.write ⟨k, ⟨#[]⟩, true⟩ = s := by
        unfold Vs.write
        rw [hf]
        rfl
      rw [e1]
      exact ⟨_, _, rfl, ⟨g, b, sh, wt, rd, rg, rfl, hv, h1, h2, rfl, rfl⟩, stp (Did.refl _ _ _)⟩
    | false =>
      rw [hf] at hrf
      have e1 : s.write ⟨k, ⟨#[]⟩, true⟩ = { s with wr := writeW s.base s.wr ⟨k, ⟨#[]⟩, true⟩ } := by
        unfold Vs.write
        rw [hf]
        rfl
      have hok := ok_write h1 ⟨k, ⟨#[]⟩, true⟩
      have e2 : shownL s.base (writeW s.base s.wr ⟨k, ⟨#[]⟩, true⟩) = cutL k s.shown := shown_write h1.base h1.wr ⟨k, ⟨#[]⟩, true⟩
      rw [e1] at hok ⊢
      cases hB : getL k s.base with
      | some p =>
        refine (cut_yes k p hB hv (by omega) l2 l4 hrf).mono ?_
        rintro e w' ⟨sh', wt', rfl, hv', hd⟩
        refine ⟨_, _, rfl, ⟨g, b, sh', wt', rd, rg, rfl, ?_, hok, h2.write (B := s.base) (p := ⟨k, ⟨#[]⟩, true⟩) (fun _ => rfl), rfl, rfl⟩, stp hd⟩
        have e3 : kys (writeW s.base s.wr ⟨k, ⟨#[]⟩, true⟩) = putL k ⟨#[]⟩ (kys s.wr) := by rw [ViewKm.cut_is, hB]; exact kys_put ⟨k, ⟨#[]⟩, true⟩ s.wr
        show VC w' g b sh' wt' rd rg s.base (shownL s.base (writeW s.base s.wr ⟨k, ⟨#[]⟩, true⟩)) (kys (writeW s.base s.wr ⟨k, ⟨#[]⟩, true⟩)) s.rd s.rg
        rw [e2, e3]
        exact hv'
      | none =>
        refine (cut_new k hB hv (by omega) l2 l4 hrf).mono ?_
        rintro e w' ⟨sh', wt', rfl, hv', hd⟩
        refine ⟨_, _, rfl, ⟨g, b, sh', wt', rd, rg, rfl, ?_, hok, h2.write (B := s.base) (p := ⟨k, ⟨#[]⟩, true⟩) (fun _ => rfl), rfl, rfl⟩, stp hd⟩
        have e3 : kys (writeW s.base s.wr ⟨k, ⟨#[]⟩, true⟩) = cutL k (kys s.wr) := by rw [ViewKm.cut_is, hB]; exact kys_cut k s.wr
        show VC w' g b sh' wt' rd rg s.base (shownL s.base (writeW s.base s.wr ⟨k, ⟨#[]⟩, true⟩)) (kys (writeW s.base s.wr ⟨k, ⟨#[]⟩, true⟩)) s.rd s.rg
        rw [e2, e3]
        exact hv'
  writes := by
    rintro w v s S D ⟨g, b, sh, wt, rd, rg, rfl, hv, h1, h2, rfl, rfl⟩ hl
    obtain ⟨l1, l2, l3, l4, l5, l6⟩ := lens hl h1
    refine (writes_calls hv h1.base h1.wr h2 l1 l3).mono ?_
    rintro e w' ⟨u, rfl, ho, hb⟩
    obtain ⟨r, rfl, hsl, _⟩ := sh_of ho
    exact ⟨r, rfl, hsl, hb⟩
  reads := by
    rintro w v s S D ⟨g, b, sh, wt, rd, rg, rfl, hv, h1, h2, rfl, rfl⟩ hl
    obtain ⟨l1, l2, l3, l4, l5, l6⟩ := lens hl h1
    refine (reads_calls hv l5).mono ?_
    rintro e w' ⟨u, rfl, ho, hb⟩
    obtain ⟨r, rfl, hsl, _⟩ := sh_of ho
    exact ⟨r, rfl, hsl, hb⟩
  ranges := by
    rintro w v s S D ⟨g, b, sh, wt, rd, rg, rfl, hv, h1, h2, rfl, rfl⟩ hl
    obtain ⟨l1, l2, l3, l4, l5, l6⟩ := lens hl h1
    refine (ranges_calls hv l6).mono ?_
    rintro e w' ⟨u, rfl, ho, hb⟩
    obtain ⟨r, rfl, hsl, _⟩ := sh_of ho
    exact ⟨r, rfl, hsl, hb⟩
  copy := by
    rintro w v s S D ⟨g, b, sh, wt, rd, rg, rfl, hv, h1, h2, rfl, rfl⟩ hl
    obtain ⟨l1, l2, l3, l4, l5, l6⟩ := lens hl h1
    refine (copy_calls hv l6).mono ?_
    rintro e w' ⟨c, rg', rfl, hc, hn, hv', hb⟩
    refine ⟨_, _, _, rfl, ⟨c, b, sh, wt, rd, rg', rfl, hv', h1, h2, rfl, rfl⟩, fun q hq => ?_, hb⟩
    rcases hq with rfl | hq
    · exact hc
    · exact hn q hq

/-! ### nil -/
set_option maxRecDepth 100000 in
theorem look_nil (w : World) (k : ByteArray) : Calls Try.prog 21 #[.pointer none, .string k] w fun e w' => e = .returned (.tuple #[.string ⟨#[]⟩, .bool false]) ∧ w = w' := by
  go_enter Try.func21, Try.ntmps21
  go_wp2_with fail
  go_ret2
  exact ⟨rfl, rfl⟩
set_option maxRecDepth 100000 in
theorem get_nil (w : World) (k : ByteArray) : Calls Try.prog 20 #[.pointer none, .string k] w fun e w' => e = .returned (.tuple #[.string ⟨#[]⟩, .bool false]) ∧ w = w' := by
  go_enter Try.func20, Try.ntmps20
  go_wp2_with (go_at_call 21; refine (look_nil _ _).mono ?_; rintro e w1 ⟨rfl, rfl⟩)
  go_ret2
  exact ⟨rfl, rfl⟩
set_option maxRecDepth 100000 in
theorem room_nil (w : World) (k : ByteArray) : Calls Try.prog 35 #[.pointer none, .string k] w fun e w' => e = .returned (.bool false) ∧ w = w' := by
  go_enter Try.func35, Try.ntmps35
  go_wp2_with fail
  go_ret
  exact ⟨rfl, rfl⟩
set_option maxRecDepth 100000 in
theorem set_nil (w : World) (k x : ByteArray) : Calls Try.prog 16 #[.pointer none, .string k, .string x] w fun e w' => e = .returned (.bool false) ∧ w = w' := by
  go_enter Try.func16, Try.ntmps16
  go_wp2_with (go_at_call 35; refine (room_nil _ _).mono ?_; rintro e w1 ⟨rfl, rfl⟩)
  go_ret
  exact ⟨rfl, rfl⟩
set_option maxRecDepth 100000 in
theorem cut_nil (w : World) (k : ByteArray) : Calls Try.prog 19 #[.pointer none, .string k] w fun e w' => e = .returned (.bool false) ∧ w = w' := by
  go_enter Try.func19, Try.ntmps19
  go_wp2_with (go_at_call 35; refine (room_nil _ _).mono ?_; rintro e w1 ⟨rfl, rfl⟩)
  go_ret
  exact ⟨rfl, rfl⟩
set_option maxRecDepth 100000 in
theorem range_nil (w : World) (x y : ByteArray) : Calls Try.prog 22 #[.pointer none, .string x, .string y] w fun e w' => e = .returned (.slice none 0 0) ∧ w = w' := by
  go_enter Try.func22, Try.ntmps22
  go_wp2_with fail
  go_ret
  exact ⟨rfl, rfl⟩
set_option maxRecDepth 100000 in
theorem writes_nil (w : World) : Calls Try.prog 17 #[.pointer none] w fun e w' => e = .returned (.slice none 0 0) ∧ w = w' := by
  go_enter Try.func17, Try.ntmps17
  go_wp2_with fail
  go_ret
  exact ⟨rfl, rfl⟩
set_option maxRecDepth 100000 in
theorem reads_nil (w : World) : Calls Try.prog 23 #[.pointer none] w fun e w' => e = .returned (.slice none 0 0) ∧ w = w' := by
  go_enter Try.func23, Try.ntmps23
  go_wp2_with fail
  go_ret
  exact ⟨rfl, rfl⟩
set_option maxRecDepth 100000 in
theorem ranges_nil (w : World) : Calls Try.prog 24 #[.pointer none] w fun e w' => e = .returned (.slice none 0 0) ∧ w = w' := by
  go_enter Try.func24, Try.ntmps24
  go_wp2_with fail
  go_ret
  exact ⟨rfl, rfl⟩
set_option maxRecDepth 100000 in
theorem copy_nil (w : World) : Calls Try.prog 14 #[.pointer none] w fun e w' => e = .returned (.pointer none) ∧ w = w' := by
  go_enter Try.func14, Try.ntmps14
  go_wp2_with fail
  go_ret
  exact ⟨rfl, rfl⟩
theorem same_b {w w' : World} (h : w = w') : Below w.heap.size w w' := h ▸ Below.refl _ _
theorem views_nil : VwNil where
  get w k := (get_nil w k).mono fun _ _ h => ⟨h.1, same_b h.2⟩
  look w k := (look_nil w k).mono fun _ _ h => ⟨h.1, same_b h.2⟩
  range w x y := (range_nil w x y).mono fun _ _ h => ⟨none, 0, h.1, same_b h.2⟩
  set w k x := (set_nil w k x).mono fun _ _ h => ⟨h.1, same_b h.2⟩
  cut w k := (cut_nil w k).mono fun _ _ h => ⟨h.1, same_b h.2⟩
  writes w := (writes_nil w).mono fun _ _ h => ⟨none, 0, h.1, same_b h.2⟩
  reads w := (reads_nil w).mono fun _ _ h => ⟨none, 0, h.1, same_b h.2⟩
  ranges w := (ranges_nil w).mono fun _ _ h => ⟨none, 0, h.1, same_b h.2⟩
  copy w := (copy_nil w).mono fun _ _ h => ⟨h.1, same_b h.2⟩
end Go.Proofs.Ytdnenikplajmaaa.ViewK
