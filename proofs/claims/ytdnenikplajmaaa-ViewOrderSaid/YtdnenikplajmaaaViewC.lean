/- Layer 14's law ViewCopies, over what the project's view is asked. -/
import Derived.Test.YtdnenikplajmaaaViewP
namespace Go.Proofs.Ytdnenikplajmaaa.ViewC
set_option linter.unusedVariables false
set_option linter.unusedSimpArgs false
open Go.RowKit
open Go.Proofs.Ytdnenikplajmaaa.Byte Go.Proofs.Ytdnenikplajmaaa.KeysM Go.Proofs.Ytdnenikplajmaaa.TreeM Go.Proofs.Ytdnenikplajmaaa.ViewM Go.Proofs.Ytdnenikplajmaaa.Own Go.Proofs.Ytdnenikplajmaaa.Rw Go.Proofs.Ytdnenikplajmaaa.Lst Go.Proofs.Ytdnenikplajmaaa.Chg Go.Proofs.Ytdnenikplajmaaa.TreeR Go.Proofs.Ytdnenikplajmaaa.TreeS Go.Proofs.Ytdnenikplajmaaa.TreeL Go.Proofs.Ytdnenikplajmaaa.TreeG Go.Proofs.Ytdnenikplajmaaa.TreeH Go.Proofs.Ytdnenikplajmaaa.Ho Go.Proofs.Ytdnenikplajmaaa.ViewR Go.Proofs.Ytdnenikplajmaaa.ViewG Go.Proofs.Ytdnenikplajmaaa.ViewW Go.Proofs.Ytdnenikplajmaaa.ViewWa Go.Proofs.Ytdnenikplajmaaa.ViewS Go.Proofs.Ytdnenikplajmaaa.ViewL Go.Proofs.Ytdnenikplajmaaa.ViewF Go.Proofs.Ytdnenikplajmaaa.ViewB Go.Proofs.Ytdnenikplajmaaa.ViewD Go.Proofs.Ytdnenikplajmaaa.ViewDw Go.Proofs.Ytdnenikplajmaaa.ViewE Go.Proofs.Ytdnenikplajmaaa.ViewP
variable {Rep : World → Value → Vs → (Nat → Prop) → (Nat → Prop) → Prop}

/-- What a slice holds lies below this block. -/
def LoS (lo : Nat) (h : Sh) : Prop := 0 < h.n → ∀ b o, h.a = some ⟨b, o, none⟩ → b < lo
theorem lo_s {α : Type} {e : Enc α} {w : World} {h : Sh} {L : List α} (s : Ss e w h L) : LoS w.heap.size h := fun hn b o e => by
  obtain ⟨b', o', e', hlt⟩ := sl_lt s.1 hn
  rw [e] at e'
  injection e' with e'
  injection e' with e1 _
  omega
theorem LoS.off {lo : Nat} {h : Sh} {T : Nat → Prop} (hl : LoS lo h) (hT : ∀ k, T k → lo ≤ k) : Off T h := fun hn b o e hb => by
  have h1 := hl hn b o e
  have h2 := hT b hb
  omega
/-- All that a pair of views leans on lies below this block. -/
structure Lo (lo g : Nat) (D : Nat → Prop) (b wt rd rg : Sh) : Prop where
  dep : ∀ k, D k → k < lo
  var : g < lo
  b : LoS lo b
  wt : LoS lo wt
  rd : LoS lo rd
  rg : LoS lo rg
theorem pair_lo (hS : Stays Rep) {B g : Nat} {v : Value} {s : Vs} {S D : Nat → Prop} {b wt rd rg : Sh} {w : World} (h : Pair2 Rep B g v s S D b wt rd rg w) : Lo w.heap.size g D b wt rd rg :=
  ⟨hS.lt h.rep, h.blk.lt, lo_s h.dv.dv.base, lo_s h.dv.dv.wr, lo_s h.dv.dv.rd, lo_s h.dv.dv.rg⟩
theorem pair_other (hS : Stays Rep) {B g lo : Nat} {v : Value} {s : Vs} {S D T : Nat → Prop} {b wt rd rg : Sh} {w w' : World} (h : Pair2 Rep B g v s S D b wt rd rg w) (ho : Lo lo g D b wt rd rg) (hc : Chg T w w') (hk : Kept w w') (hT : ∀ k, T k → lo ≤ k) : Pair2 Rep B g v s S D b wt rd rg w' :=
  ⟨hS.stay h.rep hc (fun k hk hd => by have h1 := hT k hk; have h2 := ho.dep k hd; omega) hk, ⟨⟨ss_chg h.dv.dv.base hc (ho.b.off hT), ss_chg h.dv.dv.wr hc (ho.wt.off hT), ss_chg h.dv.dv.rd hc (ho.rd.off hT), ss_chg h.dv.dv.rg hc (ho.rg.off hT)⟩, h.dv.fb, h.dv.fw, h.dv.fr, h.dv.fg⟩, blk_chg h.blk hc (fun hq => by have h1 := hT g hq; have h2 := ho.var; omega), h.far, h.new, h.ob, h.ow, h.or_, h.og⟩
/-- A copy, in a variable of its own. -/
theorem pair_copy (hS : Stays Rep) {lo B g : Nat} {v c : Value} {s : Vs} {S D S' D' : Nat → Prop} {b wt rd rg : Sh} {w w' : World} (h : Pair2 Rep B g v s S D b wt rd rg w) (hlo : w.heap.size = lo) (hr : Rep w' c s S' D') (hn : ∀ k, S' k → w.heap.size ≤ k) (hb : Below w.heap.size w w') :
    Pair2 Rep lo w'.heap.size c s S' D' b wt rd rg (w'.alloc (.cells #[.slice b.a b.n b.c, .slice wt.a wt.n wt.c, .slice rd.a rd.n rd.c, .slice rg.a rg.n rg.c] 32)) := by
  have hl := pair_lo hS h
  have hba : Below w'.heap.size w' (w'.alloc (.cells #[.slice b.a b.n b.c, .slice wt.a wt.n wt.c, .slice rd.a rd.n rd.c, .slice rg.a rg.n rg.c] 32)) := (Below.refl _ _).alloc (Nat.le_refl _) _
  have hg : ∀ k, k = w'.heap.size → w.heap.size ≤ k := fun k hk => by rw [hk]; exact hb.size
  exact ⟨hS.below hr hba, ⟨(h.dv.dv.below hb).below hba, hl.b.off hn, hl.wt.off hn, hl.rd.off hn, hl.rg.off hn⟩, Blk.new_ _ _ _, fun hq => by have := hS.lt hr _ hq; omega, fun k hk => by have := hn k hk; omega, hl.b.off hg, hl.wt.off hg, hl.rd.off hg, hl.rg.off hg⟩
theorem tlen_is {w : World} {t : Value} {K : List Pr} {h n : Nat} (hr : TRep w t K h) (hn : K.length = n) (hb : n ≤ 1000) : Calls Try.prog 15 #[t] w fun e w' => e = .returned (.int .i64 (n : Nat)) ∧ w = w' := by
  subst hn
  exact tlen hr (by omega)
set_option maxRecDepth 100000 in
set_option maxHeartbeats 8000000 in
theorem copies_law (hV : Vws Rep) (A A2 A3 : Option Addr) (n c n2 c2 n3 c3 : Nat) (L : List (ByteArray × ByteArray)) (M N : List Op14) (w : World) (hl : Sl rgE w A n L) (hm : Sl oqE w A2 n2 M) (hm3 : Sl oqE w A3 n3 N) (hn : n ≤ c) (hc : c ≤ maxLen) (hn2 : n2 ≤ c2) (hc2 : c2 ≤ maxLen) (hn3 : n3 ≤ c3) (hc3 : c3 ≤ maxLen) (hf : ∀ p ∈ L, fitTwo p) (hf2 : ∀ p ∈ M, fitOq p) (hf3 : ∀ p ∈ N, fitOq p) :
    Calls Try.prog 4 #[.slice A n c, .slice A2 n2 c2, .slice A3 n3 c3] w fun e w' => e = .returned (.bool true) ∧ Below w.heap.size w w' := by
  have HV := Lib.hid hV
  have HB0 := Lib.hid (base_calls A n c L w hl hn hc hf)
  have HM := Lib.hid hm
  have HM3 := Lib.hid hm3
  have HC := Lib.hid (fun (v : World) (hb : Below w.heap.size w v) => ViewB.cut_calls A2 n2 c2 M v (hm.below hb) hn2 hc2 hf2)
  have HC3 := Lib.hid (fun (v : World) (hb : Below w.heap.size w v) => ViewB.cut_calls A3 n3 c3 N v (hm3.below hb) hn3 hc3 hf3)
  clear hV hl hm hf hf2 hn hc hn2 hc2 hm3 hf3 hn3 hc3
  go_enter Try.func4, Try.ntmps4
  go_wp2_with fail
  refine HB0.out.mono ?_
  rintro e w1 ⟨t, h, r, K, rfl, ht, hs, hkl, hb1⟩
  have HB1 := Lib.hid hb1
  have HT := Lib.hid ht
  have HSS := Lib.hid hs
  have HKL := Lib.hid hkl
  have HRN : Hid (K.length = r.n) := Lib.hid hs.1.1
  clear ht hs hb1 hkl
  go_wp2_with fail
  refine (HV.out.new HT.out (by have := HKL.out; omega)).mono ?_
  rintro e w2 ⟨v, S0, D0, rfl, hr, hs2, _, hb2⟩
  have HP0 := Lib.hid (Pair2.start HV.out.stays (B := w.heap.size) HB1.out.size HSS.out hr hs2 hb2 (trise HT.out))
  have HB2 := Lib.hid (keeps HB1.out hb2)
  have hb3 : Below w.heap.size w (w2.alloc (.cells #[.slice r.a r.n r.c, .slice none 0 0, .slice none 0 0, .slice none 0 0] 32)) := HB2.out.alloc HB2.out.size _
  have HB3 := Lib.hid hb3
  have HT3 := Lib.hid (tbelow (tbelow HT.out hb2) ((Below.refl _ _).alloc (Nat.le_refl _) (.cells #[.slice r.a r.n r.c, .slice none 0 0, .slice none 0 0, .slice none 0 0] 32)))
  clear hr hs2 hb2 hb3 HT
  go_wp2_with fail
  refine (HC.out _ HB3.out).mono ?_
  rintro e w4 ⟨m, rfl, hm1, hm2, hok, hb4⟩
  have HOK := Lib.hid hok
  have HB4 := Lib.hid (keeps HB3.out hb4)
  have HP4 := Lib.hid (HP0.out.below HV.out.stays hb4)
  have HT4 := Lib.hid (tbelow HT3.out hb4)
  obtain ⟨gm, hgm⟩ : ∃ gm, w2.heap.size = gm := ⟨_, rfl⟩
  have HGM : Hid (w.heap.size ≤ gm) := Lib.hid (by rw [← hgm]; exact HB2.out.size)
  rw [hgm] at HP4 ⊢
  clear hok hb4 hgm HT3
  go_wp2
  go_loopw [29] (fun i wr => ∃ (k : Nat) (s : Vs) (S D : Nat → Prop) (wt rd rg : Sh), k ≤ m ∧ i = .int .i64 k ∧ Hid (Pair2 Rep w.heap.size gm v s S D r wt rd rg wr) ∧ Hid (Few K k s) ∧ Hid (TRep wr t K h) ∧ Below w.heap.size w wr) (fun i _ => m - (intOf i).toNat)
  case atStart => exact ⟨0, _, S0, D0, _, _, _, Nat.zero_le _, rfl, HP4, Lib.hid ⟨rfl, Nat.le_refl _, Nat.le_refl _⟩, HT4, HB4.out⟩
  case round =>
    obtain ⟨k, s, S, D, wt, rd, rg, hk, rfl, HP, HF, HT, hbel⟩ := hrel
    by_cases hlt : k < m
    · obtain ⟨x, g, o, hx, rfl, hg, hcl⟩ := (HM.out.below hbel).get k (by have := HM.out.1; omega)
      obtain ⟨_, _, _, hc3⟩ := oq_cells hcl
      have HX := Lib.hid hc3
      have hokx := HOK.out x (List.mem_of_getElem? (by rw [List.getElem?_take_of_lt hlt]; exact hx))
      have HOX := Lib.hid hokx
      obtain ⟨kind, key, value⟩ := x
      dsimp only at hc3
      have hba : Below wr.heap.size wr (wr.alloc (.cells #[.int .i64 kind, .string key, .string value] 35)) := (Below.refl _ _).alloc (Nat.le_refl _) _
      have HBX := Lib.hid (keeps hbel hba)
      have HTX := Lib.hid (tbelow HT.out hba)
      have HPX := Lib.hid (HP.out.below HV.out.stays hba)
      have HKX := Lib.hid (Blk.new_ wr #[.int .i64 kind, .string key, .string value] 35)
      have HLM := Lib.hid (HF.out.lim HKL.out (by omega))
      clear hcl hc3 hx hbel hba hokx
      go_wp2_with (first
        | ((with_reducible refine pick (some 32) ?_); refine wpList_load_mid rfl 35 _ rfl g (o + k * 3) rfl [.int .i64 kind, .string key, .string value] _ HX.out Try.underlying35 rfl info_oq ?_)
        | ((with_reducible refine pick (some 35) ?_); refine load_blk rfl 32 _ rfl gm rfl 32 #[.slice r.a r.n r.c, .slice wt.a wt.n wt.c, .slice rd.a rd.n rd.c, .slice rg.a rg.n rg.c] _ HPX.out.blk Try.underlying32 rfl info_view ?_)
        | ((with_reducible refine pick (some 36) ?_); refine load_blk rfl 35 _ rfl wr.heap.size rfl 35 #[.int .i64 kind, .string key, .string value] _ HKX.out Try.underlying35 rfl info_oq ?_)
        | (go_at_call 11; refine (do_calls HV.out v s S D r wt rd rg ⟨kind, key, value⟩ _ HPX.out.rep HPX.out.dv HLM.out HOX.out).mono ?_; rintro e w5 ⟨wt', rd', rg', S', D', rfl, hr5, hd5, hst, n1, n2, n3⟩; obtain ⟨hq1, hq2⟩ := HPX.out.mid HV.out.stays HBX.out.size hr5 hd5 hst n1 n2 n3; have HQ1 := Lib.hid hq1; have HQ2 := Lib.hid hq2; have HT5 := Lib.hid (tkeep HTX.out hst.kept); have HB5 := Lib.hid (below_chg HBX.out hst.chg HPX.out.new (Nat.le_refl _)); clear hr5 hd5 hst n1 n2 n3 hq1 hq2)
        | ((with_reducible refine pick none ?_); refine store_blk rfl 32 _ _ rfl gm #[.slice r.a r.n r.c, .slice wt'.a wt'.n wt'.c, .slice rd'.a rd'.n rd'.c, .slice rg'.a rg'.n rg'.c] rfl rfl 32 #[.slice r.a r.n r.c, .slice wt.a wt.n wt.c, .slice rd.a rd.n rd.c, .slice rg.a rg.n rg.c] HQ1.out info_view rfl (by simp [Value.oneCell']) ?_; intro w6 hk6 hg6; have HP6 := Lib.hid (HQ2.out w6 hk6 hg6); have HT6 := Lib.hid (tkeep HT5.out (kept_grown HQ1.out (by decide) hg6)); have HB6 := Lib.hid (HB5.out.grown hg6 HB5.out.size (fun q hq => (by injection hq with hq; rw [← hq]; exact HGM.out))); clear hk6 hg6))
      go_roundw
      case rel => exact ⟨k + 1, _, S', D', wt', rd', rg', by omega, by go_num, HP6, Lib.hid (HF.out.next ⟨kind, key, value⟩), HT6, HB6.out⟩
      case measure => simp [intOf]; omega
    · obtain rfl : k = m := by omega
      have HBL := Lib.hid hbel
      have HLM := Lib.hid (HF.out.lim HKL.out (by omega))
      have hk2 : k ≤ 200 := hm2
      clear hbel
      go_wp2_with (first
        | (go_at_call 14; refine (HV.out.copy HP.out.rep HLM.out).mono ?_; rintro e w7 ⟨cv, Sc, Dc, rfl, hrc, hnc, hb7⟩; have HPC := Lib.hid (pair_copy HV.out.stays HP.out rfl hrc hnc hb7); have HLO := Lib.hid (pair_lo HV.out.stays HP.out); have HP7 := Lib.hid (HP.out.below HV.out.stays hb7); have HT7 := Lib.hid (tbelow HT.out hb7); have HB7 := Lib.hid (keeps HBL.out hb7); have HZ7 := Lib.hid hb7.size; clear hrc hnc hb7)
        | ((with_reducible refine pick (some 43) ?_); refine load_blk rfl 32 _ rfl gm rfl 32 #[.slice r.a r.n r.c, .slice wt.a wt.n wt.c, .slice rd.a rd.n rd.c, .slice rg.a rg.n rg.c] _ HP7.out.blk Try.underlying32 rfl info_view ?_)
        | (go_at_call 10; refine (HC3.out _ (HB7.out.alloc HB7.out.size (.cells #[.slice r.a r.n r.c, .slice wt.a wt.n wt.c, .slice rd.a rd.n rd.c, .slice rg.a rg.n rg.c] 32))).mono ?_; rintro e w8 ⟨m3, rfl, hm31, hm32, hok3, hb8⟩; have HOK3 := Lib.hid hok3; have hba := (Below.refl w7.heap.size w7).alloc (Nat.le_refl _) (.cells #[.slice r.a r.n r.c, .slice wt.a wt.n wt.c, .slice rd.a rd.n rd.c, .slice rg.a rg.n rg.c] 32); have HP8 := Lib.hid ((HP7.out.below HV.out.stays hba).below HV.out.stays hb8); have HPC8 := Lib.hid (HPC.out.below HV.out.stays hb8); have HT8 := Lib.hid (tbelow (tbelow HT7.out hba) hb8); have HB8 := Lib.hid (keeps (HB7.out.alloc HB7.out.size _) hb8); clear hok3 hb8 hba))
      obtain ⟨g2, hg2⟩ : ∃ g2, w7.heap.size = g2 := ⟨_, rfl⟩
      have HG2 : Hid (wr.heap.size ≤ g2) := Lib.hid (by rw [← hg2]; exact HZ7.out)
      have HWR := Lib.hid HBL.out.size
      rw [hg2] at HPC8 ⊢
      clear hg2
      go_loopw [47] (fun i wq => ∃ (j : Nat) (s2 : Vs) (S2 D2 : Nat → Prop) (wt2 rd2 rg2 : Sh), j ≤ m3 ∧ i = .int .i64 j ∧ Hid (Pair2 Rep wr.heap.size g2 cv s2 S2 D2 r wt2 rd2 rg2 wq) ∧ Hid (Few K (k + j) s2) ∧ Hid (Pair2 Rep w.heap.size gm v s S D r wt rd rg wq) ∧ Hid (TRep wq t K h) ∧ Below w.heap.size w wq) (fun i _ => m3 - (intOf i).toNat)
      case atStart => exact ⟨0, s, Sc, Dc, wt, rd, rg, Nat.zero_le _, rfl, HPC8, HF, HP8, HT8, HB8.out⟩
      case round =>
        rename World => wq
        obtain ⟨j, s2, S2, D2, wt2, rd2, rg2, hj, rfl, HPC2, HF2, HP2, HT2, hbel⟩ := hrel
        by_cases hlt2 : j < m3
        · obtain ⟨x, g, o, hx, rfl, hg, hcl⟩ := (HM3.out.below hbel).get j (by have := HM3.out.1; omega)
          obtain ⟨_, _, _, hc3⟩ := oq_cells hcl
          have HX := Lib.hid hc3
          have hokx := HOK3.out x (List.mem_of_getElem? (by rw [List.getElem?_take_of_lt hlt2]; exact hx))
          have HOX := Lib.hid hokx
          obtain ⟨kind, key, value⟩ := x
          dsimp only at hc3
          have hba : Below wq.heap.size wq (wq.alloc (.cells #[.int .i64 kind, .string key, .string value] 35)) := (Below.refl _ _).alloc (Nat.le_refl _) _
          have HBX := Lib.hid (keeps hbel hba)
          have HTX := Lib.hid (tbelow HT2.out hba)
          have HPX := Lib.hid (HPC2.out.below HV.out.stays hba)
          have HPV := Lib.hid (HP2.out.below HV.out.stays hba)
          have HKX := Lib.hid (Blk.new_ wq #[.int .i64 kind, .string key, .string value] 35)
          have HLM2 := Lib.hid (HF2.out.lim HKL.out (by omega))
          have HQW : Hid (wr.heap.size ≤ (wq.alloc (.cells #[.int .i64 kind, .string key, .string value] 35)).heap.size) := Lib.hid (by have h1 := HG2.out; have h2 := HPX.out.blk.lt; omega)
          clear hcl hc3 hx hbel hba hokx
          go_wp2_with (first
            | ((with_reducible refine pick (some 50) ?_); refine wpList_load_mid rfl 35 _ rfl g (o + j * 3) rfl [.int .i64 kind, .string key, .string value] _ HX.out Try.underlying35 rfl info_oq ?_)
            | ((with_reducible refine pick (some 53) ?_); refine load_blk rfl 32 _ rfl g2 rfl 32 #[.slice r.a r.n r.c, .slice wt2.a wt2.n wt2.c, .slice rd2.a rd2.n rd2.c, .slice rg2.a rg2.n rg2.c] _ HPX.out.blk Try.underlying32 rfl info_view ?_)
            | ((with_reducible refine pick (some 54) ?_); refine load_blk rfl 35 _ rfl wq.heap.size rfl 35 #[.int .i64 kind, .string key, .string value] _ HKX.out Try.underlying35 rfl info_oq ?_)
            | (go_at_call 11; refine (do_calls HV.out cv s2 S2 D2 r wt2 rd2 rg2 ⟨kind, key, value⟩ _ HPX.out.rep HPX.out.dv HLM2.out HOX.out).mono ?_; rintro e w5 ⟨wt', rd', rg', S', D', rfl, hr5, hd5, hst, n1, n2, n3⟩; obtain ⟨hq1, hq2⟩ := HPX.out.mid HV.out.stays HQW.out hr5 hd5 hst n1 n2 n3; have HQ1 := Lib.hid hq1; have HQ2 := Lib.hid hq2; have HT5 := Lib.hid (tkeep HTX.out hst.kept); have HPV5 := Lib.hid (pair_other HV.out.stays HPV.out HLO.out hst.chg hst.kept HPX.out.new); have HB5 := Lib.hid (below_chg HBX.out hst.chg (fun q hq => Nat.le_trans HWR.out (HPX.out.new q hq)) (Nat.le_refl _)); clear hr5 hd5 hst n1 n2 n3 hq1 hq2)
            | ((with_reducible refine pick none ?_); refine store_blk rfl 32 _ _ rfl g2 #[.slice r.a r.n r.c, .slice wt'.a wt'.n wt'.c, .slice rd'.a rd'.n rd'.c, .slice rg'.a rg'.n rg'.c] rfl rfl 32 #[.slice r.a r.n r.c, .slice wt2.a wt2.n wt2.c, .slice rd2.a rd2.n rd2.c, .slice rg2.a rg2.n rg2.c] HQ1.out info_view rfl (by simp [Value.oneCell']) ?_; intro w6 hk6 hg6; have HP6 := Lib.hid (HQ2.out w6 hk6 hg6); have HT6 := Lib.hid (tkeep HT5.out (kept_grown HQ1.out (by decide) hg6)); have HPV6 := Lib.hid (pair_other HV.out.stays HPV5.out HLO.out (Chg.of_grown (S := fun q => q = g2) hg6 (fun q e => .inl (by injection e with e; first | exact e.symm | exact e))) (kept_grown HQ1.out (by decide) hg6) (fun q hq => (by rw [hq]; exact HG2.out))); have HB6 := Lib.hid (HB5.out.grown hg6 HB5.out.size (fun q hq => (by injection hq with hq; rw [← hq]; exact Nat.le_trans HWR.out HG2.out))); clear hk6 hg6))
          go_roundw
          case rel => exact ⟨j + 1, _, S', D', wt', rd', rg', by omega, by go_num, HP6, Lib.hid (HF2.out.next ⟨kind, key, value⟩), HPV6, HT6, HB6.out⟩
          case measure => simp [intOf]; omega
        · obtain rfl : j = m3 := by omega
          have HBL2 := Lib.hid hbel
          have HLM2 := Lib.hid (HF2.out.lim HKL.out (by omega))
          have hkl1 : r.n ≤ 1000 := by rw [← HRN.out]; have := HKL.out; omega
          have zz : ((r.n : Int) == (r.n : Int)) = true := by simp
          clear hbel
          go_wp2_with (first
            | (go_at_call 12; refine (fixed_is HV.out _).mono ?_; rintro e w9 ⟨rfl, hb9⟩; have HB9 := Lib.hid (keeps HBL2.out hb9); have HPA := Lib.hid (HP2.out.below HV.out.stays hb9); have HPB := Lib.hid (HPC2.out.below HV.out.stays hb9); have HT9 := Lib.hid (tbelow HT2.out hb9); obtain ⟨d0, d1, d2, d3⟩ := cells4 HPA.out.blk; clear hb9)
            | (go_at_call 13; refine (same_is HV.out HPA.out.rep HPA.out.dv.dv HLM.out).mono ?_; rintro e w10 ⟨rfl, hb10⟩; have HB10 := Lib.hid (keeps HB9.out hb10); have HPB2 := Lib.hid (HPB.out.below HV.out.stays hb10); have HT10 := Lib.hid (tbelow HT9.out hb10); obtain ⟨e0, e1, e2, e3⟩ := cells4 HPB2.out.blk; clear hb10 HPA)
            | (go_at_call 13; refine (same_is HV.out HPB2.out.rep HPB2.out.dv.dv HLM2.out).mono ?_; rintro e w11 ⟨rfl, hb11⟩; have HB11 := Lib.hid (keeps HB10.out hb11); have HT11 := Lib.hid (tbelow HT10.out hb11); clear hb11)
            | (go_at_call 15; refine (tlen_is HT11.out HRN.out hkl1).mono ?_; rintro e w12 ⟨rfl, rfl⟩))
          go_ret
          exact ⟨rfl, HB11.out⟩
end Go.Proofs.Ytdnenikplajmaaa.ViewC
