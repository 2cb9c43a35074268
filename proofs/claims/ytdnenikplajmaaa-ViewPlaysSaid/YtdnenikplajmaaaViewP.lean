/- Layer 14's laws ViewPlays and ViewCopies, over what the project's view is asked. -/
import Derived.Test.YtdnenikplajmaaaViewE
namespace Go.Proofs.Ytdnenikplajmaaa.ViewP
set_option linter.unusedVariables false
set_option linter.unusedSimpArgs false
open Go.RowKit
open Go.Proofs.Ytdnenikplajmaaa.Byte Go.Proofs.Ytdnenikplajmaaa.KeysM Go.Proofs.Ytdnenikplajmaaa.TreeM Go.Proofs.Ytdnenikplajmaaa.ViewM Go.Proofs.Ytdnenikplajmaaa.Own Go.Proofs.Ytdnenikplajmaaa.Rw Go.Proofs.Ytdnenikplajmaaa.Lst Go.Proofs.Ytdnenikplajmaaa.Chg Go.Proofs.Ytdnenikplajmaaa.TreeR Go.Proofs.Ytdnenikplajmaaa.TreeS Go.Proofs.Ytdnenikplajmaaa.TreeL Go.Proofs.Ytdnenikplajmaaa.TreeG Go.Proofs.Ytdnenikplajmaaa.TreeH Go.Proofs.Ytdnenikplajmaaa.Ho Go.Proofs.Ytdnenikplajmaaa.ViewR Go.Proofs.Ytdnenikplajmaaa.ViewG Go.Proofs.Ytdnenikplajmaaa.ViewW Go.Proofs.Ytdnenikplajmaaa.ViewWa Go.Proofs.Ytdnenikplajmaaa.ViewS Go.Proofs.Ytdnenikplajmaaa.ViewL Go.Proofs.Ytdnenikplajmaaa.ViewF Go.Proofs.Ytdnenikplajmaaa.ViewB Go.Proofs.Ytdnenikplajmaaa.ViewD Go.Proofs.Ytdnenikplajmaaa.ViewDw Go.Proofs.Ytdnenikplajmaaa.ViewE

/-- All that the laws ask of the project's view. -/
structure Vws (Rep : World → Value → Vs → (Nat → Prop) → (Nat → Prop) → Prop) : Prop where
  stays : Stays Rep
  new : NewOk Rep
  get : GetOk Rep
  look : LookOk Rep
  range : RangeOk Rep
  set : SetOk Rep
  cut : CutOk Rep
  writes : WritesOk Rep
  reads : ReadsOk Rep
  ranges : RangesOk Rep
  copy : CopyOk Rep
variable {Rep : World → Value → Vs → (Nat → Prop) → (Nat → Prop) → Prop}
theorem do_calls (hV : Vws Rep) (v : Value) (s : Vs) (S D : Nat → Prop) (b wt rd rg : Sh) (o : Op14) (w : World) (hr : Rep w v s S D) (hd : DvF w s b wt rd rg S) (hlim : Lim s) (hok : okOq o) :
    Calls Try.prog 11 #[v, .agg #[.slice b.a b.n b.c, .slice wt.a wt.n wt.c, .slice rd.a rd.n rd.c, .slice rg.a rg.n rg.c], .agg #[.int .i64 o.kind, .string o.key, .string o.value]] w (DoR Rep v (doS s o) b wt rd rg S D w) := by
  obtain ⟨kind, key, value⟩ := o
  unfold doS
  dsimp only
  by_cases h0 : kind = 0
  · subst h0
    rw [if_pos rfl]
    exact do_get hV.stays hV.get v s S D b wt rd rg key value w hr hd hlim hok.1 hok.2
  by_cases h1 : kind = 1
  · subst h1
    rw [if_neg (by decide), if_pos rfl]
    exact do_look hV.stays hV.look v s S D b wt rd rg key value w hr hd hlim hok.1 hok.2
  by_cases h2 : kind = 2
  · subst h2
    rw [if_neg (by decide), if_neg (by decide), if_pos rfl]
    exact do_range hV.stays hV.range v s S D b wt rd rg key value w hr hd hlim hok.1 hok.2
  by_cases h3 : kind = 3
  · subst h3
    rw [if_neg (by decide), if_neg (by decide), if_neg (by decide), if_pos rfl]
    exact do_set hV.stays hV.set v s S D b wt rd rg key value w hr hd hlim hok.1 hok.2
  by_cases h4 : kind = 4
  · subst h4
    rw [if_neg (by decide), if_neg (by decide), if_neg (by decide), if_neg (by decide), if_pos rfl]
    exact do_cut hV.stays hV.cut v s S D b wt rd rg key value w hr hd hlim hok.1 hok.2
  rw [if_neg h0, if_neg h1, if_neg h2, if_neg h3, if_neg h4]
  exact do_other hV.stays trivial v s S D b wt rd rg key value w hr hd hlim hok.1 hok.2 kind ⟨h0, h1, h2, h3, h4⟩
theorem add_len (a b : ByteArray) (G : List (ByteArray × ByteArray)) : (addR a b G).length ≤ G.length + 1 := by
  unfold addR
  split
  · omega
  · simp
/-- How much a view holds when so many operations were done. -/
structure Few (L : List Pr) (k : Nat) (s : Vs) : Prop where
  base : s.base = L
  rd : s.rd.length ≤ k
  rg : s.rg.length ≤ k
theorem Few.next {L : List Pr} {k : Nat} {s : Vs} (h : Few L k s) (o : Op14) : Few L (k + 1) (doS s o) := by
  have hw : ∀ p, Few L (k + 1) (s.write p) := fun p => by
    unfold Vs.write
    split
    · exact ⟨h.base, by have := h.rd; omega, by have := h.rg; omega⟩
    · exact ⟨h.base, by have := h.rd; show s.rd.length ≤ _; omega, by have := h.rg; show s.rg.length ≤ _; omega⟩
  unfold doS
  split
  · exact ⟨h.base, Nat.le_trans (putP_len _ _) (by have := h.rd; omega), by have := h.rg; show s.rg.length ≤ _; omega⟩
  split
  · exact ⟨h.base, by have := h.rd; omega, by have := h.rg; omega⟩
  split
  · unfold Vs.ranged
    split
    · exact ⟨h.base, by have := h.rd; show s.rd.length ≤ _; omega, Nat.le_trans (add_len _ _ _) (by have := h.rg; omega)⟩
    · exact ⟨h.base, by have := h.rd; omega, by have := h.rg; omega⟩
  split
  · exact hw _
  split
  · exact hw _
  · exact ⟨h.base, by have := h.rd; omega, by have := h.rg; omega⟩
theorem Few.lim {L : List Pr} {k : Nat} {s : Vs} (h : Few L k s) (hL : L.length ≤ 60) (hk : k ≤ 900) : Lim s := ⟨by rw [h.base]; omega, by have := h.rd; omega, by have := h.rg; omega⟩
/-- A view of the project's and the document's, in a variable of its own (block g), side by side; all of it was made since there were B blocks. -/
structure Pair2 (Rep : World → Value → Vs → (Nat → Prop) → (Nat → Prop) → Prop) (B g : Nat) (v : Value) (s : Vs) (S D : Nat → Prop) (b wt rd rg : Sh) (w : World) : Prop where
  rep : Rep w v s S D
  dv : DvF w s b wt rd rg S
  blk : Blk w g #[.slice b.a b.n b.c, .slice wt.a wt.n wt.c, .slice rd.a rd.n rd.c, .slice rg.a rg.n rg.c] 32
  far : ¬ D g
  new : ∀ k, S k → B ≤ k
  ob : Off (fun k => k = g) b
  ow : Off (fun k => k = g) wt
  or_ : Off (fun k => k = g) rd
  og : Off (fun k => k = g) rg
theorem Pair2.below (hS : Stays Rep) {B g : Nat} {v : Value} {s : Vs} {S D : Nat → Prop} {b wt rd rg : Sh} {w w' : World} (h : Pair2 Rep B g v s S D b wt rd rg w) (hb : Below w.heap.size w w') : Pair2 Rep B g v s S D b wt rd rg w' :=
  ⟨hS.below h.rep hb, h.dv.below hb, h.blk.below hb, h.far, h.new, h.ob, h.ow, h.or_, h.og⟩
theorem kept_grown {W W' : World} {r : Nat} {cs : Array Value} {T : TypeId} (h : Blk W r cs T) (hne : 80 ≠ T ∧ 75 ≠ T) (hg : W.grownBy W' (some r)) : Kept W W' := fun q cs' U fr hU hb => by
  by_cases e : q = r
  · subst e
    unfold Blk at h
    rw [h] at hb
    injection hb with hb
    injection hb with _ hT _
    subst hT
    rcases hU with h1 | h1
    · exact absurd h1.symm hne.1
    · exact absurd h1.symm hne.2
  · have hlt : q < W.heap.size := (Array.getElem?_eq_some_iff.1 hb).1
    exact (hg.block q hlt (fun h => e (by first | exact (Option.some.inj h).symm | exact Option.some.inj h))).trans hb
/-- Behind 'do', ahead of the store into the variable; and behind it. -/
theorem Pair2.mid (hS : Stays Rep) {B g : Nat} {v : Value} {s s' : Vs} {S D S' D' : Nat → Prop} {b wt rd rg wt' rd' rg' : Sh} {w w' : World} (h : Pair2 Rep B g v s S D b wt rd rg w) (hB : B ≤ w.heap.size) (hr : Rep w' v s' S' D') (hd : DvF w' s' b wt' rd' rg' S') (hst : Stp S D S' D' w w') (n1 : wt' = wt ∨ NewA w wt') (n2 : rd' = rd ∨ NewA w rd') (n3 : rg' = rg ∨ NewA w rg') :
    Blk w' g #[.slice b.a b.n b.c, .slice wt.a wt.n wt.c, .slice rd.a rd.n rd.c, .slice rg.a rg.n rg.c] 32 ∧ ∀ W, Blk W g #[.slice b.a b.n b.c, .slice wt'.a wt'.n wt'.c, .slice rd'.a rd'.n rd'.c, .slice rg'.a rg'.n rg'.c] 32 → w'.grownBy W (some g) → Pair2 Rep B g v s' S' D' b wt' rd' rg' W := by
  have hg : g < w.heap.size := h.blk.lt
  have hnS : ¬ S g := fun hq => h.far (hS.sub h.rep g hq)
  have hb := blk_chg h.blk hst.chg hnS
  refine ⟨hb, fun W h4 hgr => ?_⟩
  have hD' : ¬ D' g := fun hq => by
    rcases hst.dep g hq with h1 | h1
    · exact h.far h1
    · omega
  have hk := kept_grown hb (by decide) hgr
  have hc : Chg (fun k => k = g) w' W := Chg.of_grown hgr (fun k e => .inl (by injection e with e; first | exact e.symm | exact e))
  have ow : Off (fun k => k = g) wt' := off_eithers h.ow (fun q hq => by subst hq; exact hg) n1
  have or_ : Off (fun k => k = g) rd' := off_eithers h.or_ (fun q hq => by subst hq; exact hg) n2
  have og : Off (fun k => k = g) rg' := off_eithers h.og (fun q hq => by subst hq; exact hg) n3
  exact ⟨hS.stay hr hc (fun q hq => by subst hq; exact hD') hk, ⟨⟨ss_chg hd.dv.base hc h.ob, ss_chg hd.dv.wr hc ow, ss_chg hd.dv.rd hc or_, ss_chg hd.dv.rg hc og⟩, hd.fb, hd.fw, hd.fr, hd.fg⟩, h4, hD', new_own h.new hB hst.own, h.ob, ow, or_, og⟩
theorem off_zero {S : Nat → Prop} : Off S ⟨none, 0, 0⟩ := fun h => absurd h (by decide)
/-- A new view, and the document's in a variable of its own. -/
theorem Pair2.start (hS : Stays Rep) {B : Nat} {w1 w2 : World} {v : Value} {K : List Pr} {S D : Nat → Prop} {r : Sh} (hB : B ≤ w1.heap.size) (hs : Ss prE w1 r K) (hr : Rep w2 v ⟨K, [], [], []⟩ S D) (hS2 : ∀ b, S b → w1.heap.size ≤ b) (hb : Below w1.heap.size w1 w2) (hri : Rise K) :
    Pair2 Rep B w2.heap.size v ⟨K, [], [], []⟩ S D r ⟨none, 0, 0⟩ ⟨none, 0, 0⟩ ⟨none, 0, 0⟩ (w2.alloc (.cells #[.slice r.a r.n r.c, .slice none 0 0, .slice none 0 0, .slice none 0 0] 32)) := by
  have hba : Below w2.heap.size w2 (w2.alloc (.cells #[.slice r.a r.n r.c, .slice none 0 0, .slice none 0 0, .slice none 0 0] 32)) := (Below.refl _ _).alloc (Nat.le_refl _) _
  exact ⟨hS.below hr hba, ⟨⟨(hs.below hb).below hba, nil_ss _ _, nil_ss _ _, nil_ss _ _⟩, Off.old hs hS2, off_zero, off_zero, off_zero⟩, Blk.new_ _ _ _, fun hq => by have := hS.lt hr _ hq; omega, fun k hk => Nat.le_trans hB (hS2 k hk), off_old (hs.below hb) (Nat.le_refl _), off_zero, off_zero, off_zero⟩
theorem cells4 {w : World} {g : Nat} {x0 x1 x2 x3 : Value} {T : TypeId} (h : Blk w g #[x0, x1, x2, x3] T) : w.cell? ⟨g, 0, none⟩ = some x0 ∧ w.cell? ⟨g, 1, none⟩ = some x1 ∧ w.cell? ⟨g, 2, none⟩ = some x2 ∧ w.cell? ⟨g, 3, none⟩ = some x3 := ⟨h.cell 0, h.cell 1, h.cell 2, h.cell 3⟩
theorem info_op3 : (Try.prog.info? 35).map (·.size) = some 3 := info_oq
theorem same_is (hV : Vws Rep) {v : Value} {s : Vs} {S D : Nat → Prop} {b wt rd rg : Sh} {w : World} (hr : Rep w v s S D) (hd : Dv w s b wt rd rg) (hlim : Lim s) :
    Calls Try.prog 13 #[v, .agg #[.slice b.a b.n b.c, .slice wt.a wt.n wt.c, .slice rd.a rd.n rd.c, .slice rg.a rg.n rg.c]] w fun e w' => e = .returned (.bool true) ∧ Below w.heap.size w w' := same_calls hV.stays hV.writes hV.reads hV.ranges v s S D b wt rd rg w hr hd hlim
theorem fixed_is (hV : Vws Rep) (w : World) : Calls Try.prog 12 #[] w fun e w' => e = .returned (.bool true) ∧ Below w.heap.size w w' := fixed_calls hV.stays hV.new hV.cut hV.set hV.range hV.writes w
set_option maxRecDepth 100000 in
set_option maxHeartbeats 8000000 in
theorem plays_law (hV : Vws Rep) (A A2 : Option Addr) (n c n2 c2 : Nat) (L : List (ByteArray × ByteArray)) (M : List Op14) (w : World) (hl : Sl rgE w A n L) (hm : Sl oqE w A2 n2 M) (hn : n ≤ c) (hc : c ≤ maxLen) (hn2 : n2 ≤ c2) (hc2 : c2 ≤ maxLen) (hf : ∀ p ∈ L, fitTwo p) (hf2 : ∀ p ∈ M, fitOq p) :
    Calls Try.prog 3 #[.slice A n c, .slice A2 n2 c2] w fun e w' => e = .returned (.bool true) ∧ Below w.heap.size w w' := by
  have HV := Lib.hid hV
  have HB0 := Lib.hid (base_calls A n c L w hl hn hc hf)
  have HM := Lib.hid hm
  have HC := Lib.hid (fun (v : World) (hb : Below w.heap.size w v) => ViewB.cut_calls A2 n2 c2 M v (hm.below hb) hn2 hc2 hf2)
  clear hV hl hm hf hf2 hn hc hn2 hc2
  go_enter Try.func3, Try.ntmps3
  go_wp2_with fail
  refine HB0.out.mono ?_
  rintro e w1 ⟨t, h, r, K, rfl, ht, hs, hkl, hb1⟩
  have HB1 := Lib.hid hb1
  have HT := Lib.hid ht
  have HSS := Lib.hid hs
  have HKL := Lib.hid hkl
  clear ht hs hb1 hkl
  go_wp2_with fail
  refine (HV.out.new HT.out (by have := HKL.out; omega)).mono ?_
  rintro e w2 ⟨v, S0, D0, rfl, hr, hs2, _, hb2⟩
  have HP0 := Lib.hid (Pair2.start HV.out.stays (B := w.heap.size) HB1.out.size HSS.out hr hs2 hb2 (trise HT.out))
  have HB2 := Lib.hid (keeps HB1.out hb2)
  have hb3 : Below w.heap.size w (w2.alloc (.cells #[.slice r.a r.n r.c, .slice none 0 0, .slice none 0 0, .slice none 0 0] 32)) := HB2.out.alloc HB2.out.size _
  have HB3 := Lib.hid hb3
  clear hr hs2 hb2 hb3
  go_wp2_with fail
  refine (HC.out _ HB3.out).mono ?_
  rintro e w4 ⟨m, rfl, hm1, hm2, hok, hb4⟩
  have HOK := Lib.hid hok
  have HB4 := Lib.hid (keeps HB3.out hb4)
  have HP4 := Lib.hid (HP0.out.below HV.out.stays hb4)
  obtain ⟨gm, hgm⟩ : ∃ gm, w2.heap.size = gm := ⟨_, rfl⟩
  have HGM : Hid (w.heap.size ≤ gm) := Lib.hid (by rw [← hgm]; exact HB2.out.size)
  rw [hgm] at HP4 ⊢
  clear hok hb4 hgm
  go_wp2
  go_loopw [24] (fun i wr => ∃ (k : Nat) (s : Vs) (S D : Nat → Prop) (wt rd rg : Sh), k ≤ m ∧ i = .int .i64 k ∧ Hid (Pair2 Rep w.heap.size gm v s S D r wt rd rg wr) ∧ Hid (Few K k s) ∧ Below w.heap.size w wr) (fun i _ => m - (intOf i).toNat)
  case atStart => exact ⟨0, _, S0, D0, _, _, _, Nat.zero_le _, rfl, HP4, Lib.hid ⟨rfl, Nat.le_refl _, Nat.le_refl _⟩, HB4.out⟩
  case round =>
    obtain ⟨k, s, S, D, wt, rd, rg, hk, rfl, HP, HF, hbel⟩ := hrel
    by_cases hlt : k < m
    · obtain ⟨x, g, o, hx, rfl, hg, hcl⟩ := (HM.out.below hbel).get k (by have := HM.out.1; omega)
      obtain ⟨_, _, _, hc3⟩ := oq_cells hcl
      have HX := Lib.hid hc3
      have hokx := HOK.out x (List.mem_of_getElem? (by rw [List.getElem?_take_of_lt hlt]; exact hx))
      have HOX := Lib.hid hokx
      obtain ⟨kind, key, value⟩ := x
      dsimp only at hc3
      have hba : Below wr.heap.size wr (wr.alloc (.cells #[.int .i64 kind, .string key, .string value] 35)) := (Below.refl _ _).alloc (Nat.le_refl _) _
      have HBX := Lib.hid (keeps hbel hba)
      have HPX := Lib.hid (HP.out.below HV.out.stays hba)
      have HKX := Lib.hid (Blk.new_ wr #[.int .i64 kind, .string key, .string value] 35)
      have HLM := Lib.hid (HF.out.lim HKL.out (by omega))
      clear hcl hc3 hx hbel hba hokx
      go_wp2_with (first
        | ((with_reducible refine pick (some 27) ?_); refine wpList_load_mid rfl 35 _ rfl g (o + k * 3) rfl [.int .i64 kind, .string key, .string value] _ HX.out Try.underlying35 rfl info_oq ?_)
        | ((with_reducible refine pick (some 30) ?_); refine load_blk rfl 32 _ rfl gm rfl 32 #[.slice r.a r.n r.c, .slice wt.a wt.n wt.c, .slice rd.a rd.n rd.c, .slice rg.a rg.n rg.c] _ HPX.out.blk Try.underlying32 rfl info_view ?_)
        | ((with_reducible refine pick (some 31) ?_); refine load_blk rfl 35 _ rfl wr.heap.size rfl 35 #[.int .i64 kind, .string key, .string value] _ HKX.out Try.underlying35 rfl info_oq ?_)
        | (go_at_call 11; refine (do_calls HV.out v s S D r wt rd rg ⟨kind, key, value⟩ _ HPX.out.rep HPX.out.dv HLM.out HOX.out).mono ?_; rintro e w5 ⟨wt', rd', rg', S', D', rfl, hr5, hd5, hst, n1, n2, n3⟩; obtain ⟨hq1, hq2⟩ := HPX.out.mid HV.out.stays HBX.out.size hr5 hd5 hst n1 n2 n3; have HQ1 := Lib.hid hq1; have HQ2 := Lib.hid hq2; have HB5 := Lib.hid (below_chg HBX.out hst.chg HPX.out.new (Nat.le_refl _)); clear hr5 hd5 hst n1 n2 n3 hq1 hq2)
        | ((with_reducible refine pick none ?_); refine store_blk rfl 32 _ _ rfl gm #[.slice r.a r.n r.c, .slice wt'.a wt'.n wt'.c, .slice rd'.a rd'.n rd'.c, .slice rg'.a rg'.n rg'.c] rfl rfl 32 #[.slice r.a r.n r.c, .slice wt.a wt.n wt.c, .slice rd.a rd.n rd.c, .slice rg.a rg.n rg.c] HQ1.out info_view rfl (by simp [Value.oneCell']) ?_; intro w6 hk6 hg6; have HP6 := Lib.hid (HQ2.out w6 hk6 hg6); have HB6 := Lib.hid (HB5.out.grown hg6 HB5.out.size (fun q hq => (by injection hq with hq; rw [← hq]; exact HGM.out))); clear hk6 hg6))
      go_roundw
      case rel => exact ⟨k + 1, _, S', D', wt', rd', rg', by omega, by go_num, HP6, Lib.hid (HF.out.next ⟨kind, key, value⟩), HB6.out⟩
      case measure => simp [intOf]; omega
    · obtain rfl : k = m := by omega
      have HBL := Lib.hid hbel
      have HLM := Lib.hid (HF.out.lim HKL.out (by omega))
      clear hbel
      go_wp2_with (first
        | (go_at_call 12; refine (fixed_is HV.out _).mono ?_; rintro e w7 ⟨rfl, hb7⟩; have HB7 := Lib.hid (keeps HBL.out hb7); have HP7 := Lib.hid (HP.out.below HV.out.stays hb7); obtain ⟨d0, d1, d2, d3⟩ := cells4 HP7.out.blk; clear hb7)
        | (go_at_call 13; refine (same_is HV.out HP7.out.rep HP7.out.dv.dv HLM.out).mono ?_; rintro e w8 ⟨rfl, hb8⟩; have HB8 := Lib.hid (keeps HB7.out hb8); clear hb8))
      go_ret
      exact ⟨rfl, HB8.out⟩
end Go.Proofs.Ytdnenikplajmaaa.ViewP
