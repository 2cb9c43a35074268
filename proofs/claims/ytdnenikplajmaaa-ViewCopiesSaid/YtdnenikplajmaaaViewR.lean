/- The contracts of the document's answer for layer 14: a view by value. -/
import Derived.Test.YtdnenikplajmaaaTreeS
import Derived.Test.YtdnenikplajmaaaViewM
import Derived.Test.YtdnenikplajmaaaHo
namespace Go.Proofs.Ytdnenikplajmaaa.ViewR
set_option linter.unusedVariables false
set_option linter.unusedSimpArgs false
open Go.RowKit
open Go.Proofs.Ytdnenikplajmaaa.Byte Go.Proofs.Ytdnenikplajmaaa.KeysM Go.Proofs.Ytdnenikplajmaaa.TreeM Go.Proofs.Ytdnenikplajmaaa.ViewM Go.Proofs.Ytdnenikplajmaaa.Own Go.Proofs.Ytdnenikplajmaaa.Rw Go.Proofs.Ytdnenikplajmaaa.Lst Go.Proofs.Ytdnenikplajmaaa.TreeR Go.Proofs.Ytdnenikplajmaaa.TreeS Go.Proofs.Ytdnenikplajmaaa.Ho

/-- Keys that were read, as pairs without values. -/
def rdE : Enc Pr := ⟨fun p => [.string p.key], 1, fun _ => rfl, fun x u hu => by
  simp only [List.mem_cons, List.mem_nil_iff, or_false] at hu
  rcases hu with rfl <;> rfl, by decide⟩
def rgE : Enc (ByteArray × ByteArray) := ⟨fun p => [.string p.1, .string p.2], 2, fun _ => rfl, fun x u hu => by
  simp only [List.mem_cons, List.mem_nil_iff, or_false] at hu
  rcases hu with rfl | rfl <;> rfl, by decide⟩
theorem info_rd : (Try.prog.info? 9).map (fun i => (i.zero, i.size, i.bytes)) = some (some (.string ⟨#[]⟩), rdE.size, 16) := by kernel_rfl
theorem info_rg : (Try.prog.info? 58).map (fun i => (i.zero, i.size, i.bytes)) = some (some (.agg #[.string ⟨#[]⟩, .string ⟨#[]⟩]), rgE.size, 32) := by kernel_rfl
section
variable {P : Program} {w : World}
/-- append of a slice that may be nil. -/
theorem wpList_append_any {α : Type} {ops : Array Oper} {rest : List Oper} {o : Oper} {a : Act} {Q : Exit → Act → World → Prop} (e : Enc α) (T : TypeId) (hgd : o.guard = none) (s x : Operand) (t : TypeId)
    (ho : o.op = .call { callee := .builtin .append, args := #[s, x], argTypes := #[t, t] }) (ht : P.underlying t = some (.slice T)) {z : Value} {bytes : Nat} (hinfo : (P.info? T).map (fun i => (i.zero, i.size, i.bytes)) = some (some z, e.size, bytes)) (hzs : z.cells.size = e.size)
    (base : Nat) (v : Value) (n : Nat) (L : List α) (hs : a.eval s = v) (hown : So e T w base v n L)
    (A : Option Addr) (m c : Nat) (M : List α) (hx : a.eval x = .slice A m c) (hr : Sl e w A m M) (hsp : ∀ b, A = some b → b.spot = none) (hnil : A = none → m = 0 ∧ c = 0)
    (h63 : n + m ≤ maxLen) (hbytes : (n + m) * bytes ≤ 140737488355328) (hbase : base ≤ w.heap.size)
    (h : ∀ v' w', So e T w' base v' (n + m) (L ++ M) → w.grownBy w' v.ownBlock → wpList P ops Q rest (a.put o.dst v') w') :
    wpList P ops Q (o :: rest) a w := by
  cases A with
  | none =>
    obtain ⟨rfl, rfl⟩ := hnil rfl
    obtain ⟨i, hi, _⟩ := info_parts hinfo
    have hM := List.eq_nil_of_length_eq_zero hr.1
    subst hM
    refine wpList_append_own_none hgd s x t ho base T i e.size ht hi v n _ hs hown.2 hx ?_
    have := h v w (by simpa using hown) (World.grownBy.refl w _)
    exact this
  | some b =>
    obtain ⟨bb, oo, sp⟩ := b
    have := hsp _ rfl
    dsimp only at this
    subst this
    exact wpList_append_lst e T hgd s x t ho ht hinfo hzs base v n L hs hown bb oo m c M hx hr _ rfl _ rfl h63 hbytes hbase (fun v' w' h1 h2 _ _ => h v' w' h1 h2)
end
theorem info_view : (Try.prog.info? 32).map (·.size) = some 4 := by kernel_rfl
/-- A slice's head: its address, length, capacity. -/
structure Sh where
  a : Option Addr
  n : Nat
  c : Nat
abbrev Sh.v (h : Sh) : Value := .slice h.a h.n h.c
/-- What lies there was made by the call. -/
def NewA (w : World) (h : Sh) : Prop := ∀ bb oo, h.a = some ⟨bb, oo, none⟩ → w.heap.size ≤ bb
/-- A slice that reads as a list, its capacity as it may be. -/
def Ss {α : Type} (e : Enc α) (w : World) (h : Sh) (L : List α) : Prop := Sl e w h.a h.n L ∧ h.n ≤ h.c ∧ h.c ≤ maxLen ∧ (h.a = none → h.c = 0) ∧ ∀ b, h.a = some b → b.spot = none
theorem Ss.below {α : Type} {e : Enc α} {w w' : World} {h : Sh} {L : List α} (s : Ss e w h L) (hb : Below w.heap.size w w') : Ss e w' h L := ⟨s.1.below hb, s.2⟩
theorem Ss.len {α : Type} {e : Enc α} {w : World} {h : Sh} {L : List α} (s : Ss e w h L) : L.length = h.n := s.1.1
theorem Ss.of_so {α : Type} {e : Enc α} {T : TypeId} {w : World} {base n : Nat} {v : Value} {L : List α} (s : So e T w base v n L) : ∃ h : Sh, v = h.v ∧ h.n = n ∧ Ss e w h L := by
  rcases s.form with ⟨rfl, h0⟩ | ⟨g, cap, rfl, h1, h2, h3, h4⟩
  · subst h0
    have hl := List.eq_nil_of_length_eq_zero s.1
    subst hl
    exact ⟨⟨none, 0, 0⟩, rfl, rfl, Sl.nil_ _ _ _, Nat.le_refl _, by decide, fun _ => rfl, fun b h => by cases h⟩
  · exact ⟨⟨some ⟨g, 0, none⟩, n, cap⟩, rfl, rfl, s.sl, h3, h4, (fun h => by cases h), fun b h => by injection h with h; rw [← h]⟩
/-- The document's view by value. -/
structure Dv (w : World) (s : Vs) (b wr rd rg : Sh) : Prop where
  base : Ss prE w b s.base
  wr : Ss prE w wr s.wr
  rd : Ss rdE w rd s.rd
  rg : Ss rgE w rg s.rg
theorem Dv.below {w w' : World} {s : Vs} {b wr rd rg : Sh} (d : Dv w s b wr rd rg) (hb : Below w.heap.size w w') : Dv w' s b wr rd rg := ⟨d.base.below hb, d.wr.below hb, d.rd.below hb, d.rg.below hb⟩
/-- The call answers with a row that reads as these pairs; nothing that was there has changed. -/
def RowR (M : List Pr) (w : World) (e : Ending) (w' : World) : Prop := ∃ h : Sh, e = .returned h.v ∧ Ss prE w' h M ∧ Below w.heap.size w w'
theorem RowR.of {M : List Pr} {w w' : World} {e : Ending} (h : Made M w e w') : RowR M w e w' := by
  obtain ⟨v, rfl, ho, hb⟩ := h
  obtain ⟨h, rfl, _, hs⟩ := Ss.of_so ho
  exact ⟨h, rfl, hs, hb⟩
theorem cut_is {h : Sh} {L : List Pr} {w : World} (k : ByteArray) (hs : Ss prE w h L) (hn : L.length ≤ 100000) : Calls Try.prog 52 #[.slice h.a h.n h.c, .string k] w (RowR (cutL k L) w) :=
  (refcut_calls h.a h.n h.c L k w hs.1 (by rw [← hs.len]; exact hn)).mono fun _ _ h => RowR.of h
theorem set_is {h : Sh} {L : List Pr} {w : World} (k v : ByteArray) (hs : Ss prE w h L) (hr : Rise L) (hn : L.length ≤ 99999) : Calls Try.prog 28 #[.slice h.a h.n h.c, .string k, .string v] w (RowR (putL k v L) w) :=
  (refset_calls h.a h.n h.c L k v w hs.1 (by rw [← hs.len]; omega) hr).mono fun _ _ h => RowR.of h
set_option maxRecDepth 100000 in
set_option maxHeartbeats 4000000 in
theorem shown_calls (s : Vs) (b wt rd rg : Sh) (w : World) (hd : Dv w s b wt rd rg) (hb : s.base.length ≤ 1000) (hok : s.Ok) :
    Calls Try.prog 43 #[.agg #[.slice b.a b.n b.c, .slice wt.a wt.n wt.c, .slice rd.a rd.n rd.c, .slice rg.a rg.n rg.c]] w (RowR s.shown w) := by
  have hb1 : Below w.heap.size w (w.alloc (.cells #[.slice b.a b.n b.c, .slice wt.a wt.n wt.c, .slice rd.a rd.n rd.c, .slice rg.a rg.n rg.c] 32)) := (Below.refl _ _).alloc (Nat.le_refl _) _
  have HD := Lib.hid (hd.below hb1)
  have HV := Lib.hid (Blk.new_ w #[.slice b.a b.n b.c, .slice wt.a wt.n wt.c, .slice rd.a rd.n rd.c, .slice rg.a rg.n rg.c] 32)
  have HB1 := Lib.hid hb1
  have HOK := Lib.hid hok
  have HLB := Lib.hid hb
  obtain ⟨n, hn⟩ : ∃ n, s.wr.length = n := ⟨_, rfl⟩
  have hn48 : n ≤ 48 := by rw [← hn]; exact hok.lw
  have hwn : wt.n = n := by rw [← hd.wr.len, hn]
  obtain ⟨wa, wn, wc⟩ := wt
  obtain rfl : wn = n := hwn
  have hwc := hd.wr.2.1
  have hwc2 := hd.wr.2.2.1
  dsimp only at hwc hwc2
  have HNN := Lib.hid hn
  clear hd hb1 hok hb hn
  go_enter Try.func43, Try.ntmps43
  go_wp2
  obtain ⟨W, hW⟩ : ∃ W, w.alloc (.cells #[.slice b.a b.n b.c, .slice wa wn wc, .slice rd.a rd.n rd.c, .slice rg.a rg.n rg.c] 32) = W := ⟨_, rfl⟩
  rw [hW] at HD HV HB1 ⊢
  clear hW
  go_loopw [3, 11] (fun v i wr => ∃ (k : Nat) (h : Sh), k ≤ wn ∧ i = .int .i64 k ∧ v = .slice h.a h.n h.c ∧ Hid (Ss prE wr h (shownL s.base (s.wr.take k))) ∧ Hid (Below W.heap.size W wr)) (fun _ i _ => wn - (intOf i).toNat)
  case atStart => exact ⟨0, b, Nat.zero_le _, rfl, rfl, Lib.hid HD.out.base, Lib.hid (Below.refl _ _)⟩
  case round =>
    obtain ⟨k, h, hk, rfl, rfl, HS, HB⟩ := hrel
    have c1 : wr.cell? ⟨w.heap.size, 1, none⟩ = some (.slice wa wn wc) := (HV.out.below HB.out).cell 1
    by_cases hlt : k < wn
    · obtain ⟨x, g, o, hx, rfl, hg, hcl⟩ := (HD.out.wr.1.below HB.out).get k hlt
      have HCL : Hid (wr.rangeAt g (o + k * 3) [.string x.key, .string x.value, .bool x.gone]) := Lib.hid hcl
      have HN := Lib.hid (shown_next hx s.base)
      have hlen : (shownL s.base (s.wr.take k)).length ≤ 2000 := by
        have h1 := shown_len s.base (s.wr.take k)
        have h2 : (s.wr.take k).length ≤ k := List.length_take_le _ _
        have h3 := HLB.out
        omega
      have HLEN := Lib.hid hlen
      have HRI := Lib.hid (rise_shown HOK.out.base (s.wr.take k))
      have hb2 : Below W.heap.size W (wr.alloc (.cells #[.string x.key, .string x.value, .bool x.gone] 69)) := HB.out.alloc HB.out.size _
      have HB2 := Lib.hid hb2
      have HS2 := Lib.hid (HS.out.below ((Below.refl _ _).alloc (Nat.le_refl _) (.cells #[.string x.key, .string x.value, .bool x.gone] 69)))
      generalize shownL s.base (s.wr.take k) = R at HN HLEN HRI HS HS2
      generalize hR' : shownL s.base (s.wr.take (k + 1)) = R' at HN
      have HR' := Lib.hid hR'
      clear hcl hx hb2 hlen hR'
      cases hgn : x.gone with
      | true =>
        rw [hgn] at HCL HB2 HS2
        have HN2 : Hid (R' = cutL x.key R) := Lib.hid (by rw [HN.out]; unfold doneW; rw [hgn, if_pos rfl])
        clear hgn
        go_wp2_with (first
          | ((with_reducible refine pick (some 18) ?_); refine wpList_load_mid rfl 69 _ rfl g (o + k * 3) rfl [.string x.key, .string x.value, .bool true] _ HCL.out Try.underlying69 rfl info_pair3 ?_)
          | (go_at_call 52; refine (cut_is x.key HS2.out (by have := HLEN.out; omega)).mono ?_; rintro e w3 ⟨h3, rfl, hs3, hb3⟩; have HS3 := Lib.hid hs3; have HB3 := Lib.hid (keeps HB2.out hb3); clear hs3 hb3))
        go_roundw
        case rel => exact ⟨k + 1, h3, by omega, by go_num, rfl, by rw [HR'.out, HN2.out]; exact HS3, HB3⟩
        case measure => simp [intOf]; omega
      | false =>
        rw [hgn] at HCL HB2 HS2
        have HN2 : Hid (R' = putL x.key x.value R) := Lib.hid (by rw [HN.out]; unfold doneW; rw [hgn, if_neg (by decide)])
        clear hgn
        go_wp2_with (first
          | ((with_reducible refine pick (some 18) ?_); refine wpList_load_mid rfl 69 _ rfl g (o + k * 3) rfl [.string x.key, .string x.value, .bool false] _ HCL.out Try.underlying69 rfl info_pair3 ?_)
          | (go_at_call 28; refine (set_is x.key x.value HS2.out HRI.out (by have := HLEN.out; omega)).mono ?_; rintro e w3 ⟨h3, rfl, hs3, hb3⟩; have HS3 := Lib.hid hs3; have HB3 := Lib.hid (keeps HB2.out hb3); clear hs3 hb3))
        go_roundw
        case rel => exact ⟨k + 1, h3, by omega, by go_num, rfl, by rw [HR'.out, HN2.out]; exact HS3, HB3⟩
        case measure => simp [intOf]; omega
    · obtain rfl : k = wn := by omega
      go_wp2_with fail
      go_ret
      have e : s.wr.take k = s.wr := List.take_of_length_le (by rw [HNN.out]; exact Nat.le_refl _)
      have hs := HS.out
      rw [e] at hs
      exact ⟨h, rfl, hs, keeps HB1.out HB.out⟩
theorem in_yes {W : List Pr} {k : ByteArray} {j : Nat} {x : Pr} (h : W[j]? = some x) (hk : x.key = k) : inW k W = true := by
  unfold inW getL
  rw [List.find?_isSome]
  exact ⟨x, List.mem_of_getElem? h, by simpa using hk⟩
theorem in_no {W : List Pr} {k : ByteArray} (h : ∀ j x, j < W.length → W[j]? = some x → x.key ≠ k) : inW k W = false := by
  unfold inW getL
  rw [← Bool.not_eq_true, List.find?_isSome]
  rintro ⟨x, hx, hk⟩
  obtain ⟨j, hj, rfl⟩ := List.mem_iff_getElem.1 hx
  exact h j _ hj (List.getElem?_eq_getElem hj) (by simpa using hk)
theorem neq_false {a b : ByteArray} (h : a ≠ b) : (a.toList == b.toList) = false := by rw [eq_list, decide_eq_false h]
theorem neq_true {a b : ByteArray} (h : a = b) : (a.toList == b.toList) = true := by rw [eq_list, decide_eq_true h]
set_option maxRecDepth 100000 in
set_option maxHeartbeats 2000000 in
theorem written_calls (s : Vs) (b wt rd rg : Sh) (k : ByteArray) (w : World) (hd : Dv w s b wt rd rg) :
    Calls Try.prog 45 #[.agg #[.slice b.a b.n b.c, .slice wt.a wt.n wt.c, .slice rd.a rd.n rd.c, .slice rg.a rg.n rg.c], .string k] w fun e w' => e = .returned (.bool (inW k s.wr)) ∧ Below w.heap.size w w' := by
  have hb1 : Below w.heap.size w (w.alloc (.cells #[.slice b.a b.n b.c, .slice wt.a wt.n wt.c, .slice rd.a rd.n rd.c, .slice rg.a rg.n rg.c] 32)) := (Below.refl _ _).alloc (Nat.le_refl _) _
  have HD := Lib.hid (hd.below hb1)
  have HV := Lib.hid (Blk.new_ w #[.slice b.a b.n b.c, .slice wt.a wt.n wt.c, .slice rd.a rd.n rd.c, .slice rg.a rg.n rg.c] 32)
  have HB1 := Lib.hid hb1
  obtain ⟨wa, wn, wc⟩ := wt
  have hwc := hd.wr.2.1
  have hwc2 := hd.wr.2.2.1
  have hln := hd.wr.len
  dsimp only at hwc hwc2 hln
  unfold maxLen at hwc2
  have HLN := Lib.hid hln
  clear hd hb1 hln
  go_enter Try.func45, Try.ntmps45
  go_wp2
  obtain ⟨W, hW⟩ : ∃ W, w.alloc (.cells #[.slice b.a b.n b.c, .slice wa wn wc, .slice rd.a rd.n rd.c, .slice rg.a rg.n rg.c] 32) = W := ⟨_, rfl⟩
  rw [hW] at HD HV HB1 ⊢
  clear hW
  have c1 : W.cell? ⟨w.heap.size, 1, none⟩ = some (.slice wa wn wc) := HV.out.cell 1
  go_loop [9] (fun i => ∃ j : Nat, j ≤ wn ∧ i = .int .i64 j ∧ Hid (∀ i x, i < j → s.wr[i]? = some x → x.key ≠ k)) (fun i => wn - (intOf i).toNat)
  case atStart => exact ⟨0, Nat.zero_le _, rfl, Lib.hid (fun i x hi => absurd hi (by omega))⟩
  case round =>
    obtain ⟨j, hj, rfl, HN⟩ := hrel
    by_cases hlt : j < wn
    · obtain ⟨x, g, o, hx, rfl, hg, hcl⟩ := HD.out.wr.1.get j hlt
      have c0 : W.cell? ⟨g, o + j * 3, none⟩ = some (.string x.key) := hcl 0 _ rfl
      have HX := Lib.hid hx
      clear hcl hx
      by_cases he : x.key = k
      · have z1 : (x.key.toList == k.toList) = true := neq_true he
        have HE := Lib.hid (in_yes HX.out he)
        clear he
        go_wp2_with fail
        go_ret
        exact ⟨ret_bool HE.out.symm, HB1.out⟩
      · have z1 : (x.key.toList == k.toList) = false := neq_false he
        have HE := Lib.hid he
        clear he
        go_wp2_with fail
        go_round
        case rel => exact ⟨j + 1, by omega, by go_num, Lib.hid (fun i y hi hy => by
          rcases Nat.lt_or_ge i j with h | h
          · exact HN.out i y h hy
          · obtain rfl : i = j := by omega
            rw [HX.out] at hy
            injection hy with hy
            subst hy
            exact HE.out)⟩
        case measure => simp [intOf]; omega
    · obtain rfl : j = wn := by omega
      have HE := Lib.hid (in_no (W := s.wr) (k := k) (fun i x hi hx => HN.out i x (by rw [HLN.out] at hi; exact hi) hx))
      go_wp2_with fail
      go_ret
      exact ⟨ret_bool HE.out.symm, HB1.out⟩
end Go.Proofs.Ytdnenikplajmaaa.ViewR
