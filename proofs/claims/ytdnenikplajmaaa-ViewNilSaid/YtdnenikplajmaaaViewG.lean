/- The contract of the document's Get of layer 14. -/
import Derived.Test.YtdnenikplajmaaaViewR
import Derived.Laws.ResultCell
import Derived.Deep.Cut
import Derived.Deep.RegionLaw
namespace Go.Proofs.Ytdnenikplajmaaa.ViewG
set_option linter.unusedVariables false
set_option linter.unusedSimpArgs false
open Go.RowKit
open Go.Proofs.Ytdnenikplajmaaa.Byte Go.Proofs.Ytdnenikplajmaaa.KeysM Go.Proofs.Ytdnenikplajmaaa.TreeM Go.Proofs.Ytdnenikplajmaaa.ViewM Go.Proofs.Ytdnenikplajmaaa.Own Go.Proofs.Ytdnenikplajmaaa.Rw Go.Proofs.Ytdnenikplajmaaa.Lst Go.Proofs.Ytdnenikplajmaaa.TreeR Go.Proofs.Ytdnenikplajmaaa.TreeS Go.Proofs.Ytdnenikplajmaaa.Ho Go.Proofs.Ytdnenikplajmaaa.ViewR

theorem results_tmp2_row {P : Program} {fn : Func} {p u u2 : Tmp} {ty : TypeId} (h : fn.results = #[.tmp u, .tmp u2, .cell p ty]) (tmps : Array Value) (w : World) (g : Nat) (t : TypeId) (cs : Array Value) (fr : Nat × Nat) (d : TypeDesc)
    (hp : tmps.getD p undef = .pointer (some ⟨g, 0, none⟩)) (x : Value) (hx : tmps.getD u undef = x) (y : Value) (hy : tmps.getD u2 undef = y) (hg : w.heap[g]? = some (.cells cs t fr))
    (hu : P.underlying ty = some d) (hd : (match d with | .struct _ | .array _ _ => true | _ => false) = true) (hi : (P.info? ty).map (·.size) = some cs.size) :
    (results fn tmps).run P w = .ok (.tuple #[x, y, .agg cs]) w := by
  subst hx
  subst hy
  have hp' : tmps[p]?.getD undef = .pointer (some ⟨g, 0, none⟩) := by simpa using hp
  simp only [results, h]
  simp [Sem.run_bind, Result.andThen, hp', asAddr, run_loadVar_row w g t ty cs fr d hg hu hd hi]
abbrev zeroV : Array Value := #[.slice none 0 0, .slice none 0 0, .slice none 0 0, .slice none 0 0]
/-- The key as it is laid down. -/
abbrev kp (k : ByteArray) : Pr := ⟨k, ⟨#[]⟩, false⟩
theorem app_below {w wr w' : World} {base : Nat} {v : Value} {n : Nat} {L : List Pr} (hb : Below w.heap.size w wr) (hbase : w.heap.size ≤ base) (ho : So rdE 9 wr base v n L) {x : Obj} (hg : (wr.alloc x).grownBy w' v.ownBlock) : Below w.heap.size w w' :=
  (hb.alloc hb.size x).grown hg (by have := hb.size; simp; omega) (fun g hv => Nat.le_trans hbase (ho.lt hv).1)
theorem own_ofR {w : World} {base n : Nat} {v : Value} {L M : List Pr} (h : So rdE 9 w base v n L) (e : L = M) : So rdE 9 w base v M.length M := by
  subst e
  rw [h.1]
  exact h
/-- What stands while the keys that were read are gone through. -/
structure Rd (w wr : World) (cs : Array Value) (v : Value) (M : List Pr) : Prop where
  own : So rdE 9 wr (w.heap.size + 2) v M.length M
  box : Blk wr w.heap.size cs 32
  res : Blk wr (w.heap.size + 1) zeroV 32
  bel : Below w.heap.size w wr
  siz : w.heap.size + 2 ≤ wr.heap.size
theorem Rd.app {w wr w' : World} {cs : Array Value} {v v' : Value} {M N : List Pr} {n : Nat} {x : Pr} (h : Rd w wr cs v M) (hg : (wr.alloc (.cells #[.string x.key] 9)).grownBy w' v.ownBlock) (ho : So rdE 9 w' (w.heap.size + 2) v' n N) (hN : N = M ++ [x]) : Rd w w' cs v' N := by
  have hb := (Below.refl wr.heap.size wr).alloc (Nat.le_refl _) (.cells #[.string x.key] 9)
  have ho2 := h.own.below hb
  refine ⟨own_ofR ho rfl, ho2.stays hg (h.box.alloc _) (by decide), ho2.stays hg (h.res.alloc _) (by decide), app_below h.bel (by omega) h.own hg, ?_⟩
  have h1 := hg.size
  have h2 := h.siz
  simp at h1
  omega
theorem sl_far {α : Type} {e : Enc α} {w : World} {A : Option Addr} {n : Nat} {L : List α} (h : Sl e w A n L) {p : Addr} (hp : ∀ b o, A = some ⟨b, o, none⟩ → b ≠ p.block) (u : Value) : Sl e (w.setCell p u) A n L := by
  refine ⟨h.1, fun j x hj => ?_⟩
  obtain ⟨b, o, e1, hlt, hc⟩ := h.2 j x hj
  refine ⟨b, o, e1, by simpa using hlt, fun i v hv => ?_⟩
  rw [← hc i v hv]
  apply World.cell?_setCell_other
  intro e2
  exact hp b o e1 (by rw [e2])
theorem own_sl {α : Type} {e : Enc α} {T : TypeId} {w : World} {base n : Nat} {v : Value} {L : List α} (s : So e T w base v n L) : ∃ h : Sh, v = h.v ∧ Ss e w h L ∧ ∀ b o, h.a = some ⟨b, o, none⟩ → base ≤ b := by
  rcases s.form with ⟨rfl, h0⟩ | ⟨g, cap, rfl, h1, h2, h3, h4⟩
  · subst h0
    have hl := List.eq_nil_of_length_eq_zero s.1
    subst hl
    exact ⟨⟨none, 0, 0⟩, rfl, ⟨Sl.nil_ _ _ _, Nat.le_refl _, by decide, fun _ => rfl, fun b h => by cases h⟩, fun b o h => by cases h⟩
  · exact ⟨⟨some ⟨g, 0, none⟩, n, cap⟩, rfl, ⟨s.sl, h3, h4, (fun h => by cases h), fun b h => by injection h with h; rw [← h]⟩, fun b o h => by
      injection h with h
      injection h with h
      omega⟩
theorem got_form (o : Option Pr) : ∃ (x : ByteArray) (y : Bool), GotV o = .tuple #[.string x, .bool y] := by
  cases o with
  | none => exact ⟨_, _, rfl⟩
  | some p => exact ⟨_, _, rfl⟩
theorem get_is {h : Sh} {L : List Pr} {w : World} (k : ByteArray) {o : Value} (hs : Ss prE w h L) (hn : L.length ≤ 100000) (ho : GotV (getL k L) = o) : Calls Try.prog 42 #[.slice h.a h.n h.c, .string k] w fun e w' => e = .returned o ∧ w = w' := by
  subst ho
  exact refget_calls h.a h.n h.c L k w hs.1 (by rw [← hs.len]; exact hn)
/-- The call answers as the document's Get, with the view behind it. -/
def GetR (s : Vs) (key : ByteArray) (b wt rg : Sh) (w : World) (e : Ending) (w' : World) : Prop := ∃ (x : ByteArray) (y : Bool) (rd' : Sh), e = .returned (.tuple #[.string x, .bool y, .agg #[.slice b.a b.n b.c, .slice wt.a wt.n wt.c, .slice rd'.a rd'.n rd'.c, .slice rg.a rg.n rg.c]]) ∧ GotV (getL key s.shown) = .tuple #[.string x, .bool y] ∧ Dv w' (s.read key) b wt rd' rg ∧ Below w.heap.size w w' ∧ NewA w rd'
set_option maxRecDepth 100000 in
set_option maxHeartbeats 8000000 in
theorem refget_view (s : Vs) (b wt rd rg : Sh) (key : ByteArray) (w : World) (hd : Dv w s b wt rd rg) (hb : s.base.length ≤ 1000) (hrd : s.rd.length ≤ 1000) (hok : s.Ok) :
    Calls Try.prog 29 #[.agg #[.slice b.a b.n b.c, .slice wt.a wt.n wt.c, .slice rd.a rd.n rd.c, .slice rg.a rg.n rg.c], .string key] w (GetR s key b wt rg w) := by
  have HD := Lib.hid hd
  have HOK := Lib.hid hok
  have HLB := Lib.hid hb
  have HRI := Lib.hid hok.rd
  obtain ⟨ra, rn, rc⟩ := rd
  have hrc := hd.rd.2.1
  have hrc2 := hd.rd.2.2.1
  have hln := hd.rd.len
  dsimp only at hrc hrc2 hln
  rw [hln] at hrd
  have HLN := Lib.hid hln
  have hR0 : Rd w (((w.alloc (.cells #[.slice b.a b.n b.c, .slice wt.a wt.n wt.c, .slice ra rn rc, .slice rg.a rg.n rg.c] 32)).alloc (.cells zeroV 32)).alloc (.cells #[] 9)) #[.slice b.a b.n b.c, .slice wt.a wt.n wt.c, .slice ra rn rc, .slice rg.a rg.n rg.c] (.slice (some ⟨((w.alloc (.cells #[.slice b.a b.n b.c, .slice wt.a wt.n wt.c, .slice ra rn rc, .slice rg.a rg.n rg.c] 32)).alloc (.cells zeroV 32)).heap.size, 0, none⟩) 0 0) [] :=
    ⟨So.new_ _ _ _ (by simp), ((Blk.new_ _ _ _).alloc _).alloc _, by have h := (Blk.new_ (w.alloc (.cells #[.slice b.a b.n b.c, .slice wt.a wt.n wt.c, .slice ra rn rc, .slice rg.a rg.n rg.c] 32)) zeroV 32).alloc (.cells #[] 9); simpa using h, (((Below.refl _ _).alloc (Nat.le_refl _) _).alloc (by simp <;> omega) _).alloc (by simp <;> omega) _, by simp <;> omega⟩
  have hsz : ((w.alloc (.cells #[.slice b.a b.n b.c, .slice wt.a wt.n wt.c, .slice ra rn rc, .slice rg.a rg.n rg.c] 32)).alloc (.cells zeroV 32)).heap.size = w.heap.size + 1 + 1 := by simp
  rw [hsz] at hR0
  have HR0 := Lib.hid hR0
  clear hd hb hok hln hR0 hsz
  go_enter Try.func29, Try.ntmps29
  go_wp2
  go_loopw [7, 8, 16] (fun v d i wr => ∃ k : Nat, k ≤ rn ∧ i = .int .i64 k ∧ d = .bool (metL key (s.rd.take k)) ∧ Hid (Rd w wr #[.slice b.a b.n b.c, .slice wt.a wt.n wt.c, .slice ra rn rc, .slice rg.a rg.n rg.c] v (soP (kp key) (s.rd.take k)))) (fun _ _ i _ => rn - (intOf i).toNat)
  case atStart => exact ⟨0, Nat.zero_le _, rfl, rfl, HR0⟩
  case round =>
    obtain ⟨k, hk, rfl, rfl, HR⟩ := hrel
    have hml : (soP (kp key) (s.rd.take k)).length ≤ 2000 := by
      have h2 : (s.rd.take k).length ≤ k := List.length_take_le _ _
      unfold soP
      split
      · have := putP_len (kp key) (s.rd.take k); omega
      · omega
    by_cases hlt : k < rn
    · obtain ⟨x, g, o, hx, rfl, hg, hcl⟩ := HD.out.rd.1.get k hlt
      have HX := Lib.hid hx
      clear hx hcl
      obtain ⟨M, hMM⟩ : ∃ M, soP (kp key) (s.rd.take k) = M := ⟨_, rfl⟩
      rw [hMM] at HR hml
      cases hm : metL key (s.rd.take k) with
      | false =>
        cases h1 : kl x.key key with
        | true =>
          have f1 : Op.bytesLess key.toList x.key.toList = false := kl_asym h1
          have z1 : (key.toList == x.key.toList) = false := neq_false (kl_ne h1).symm
          have z2 : (x.key.toList == key.toList) = false := neq_false (kl_ne h1)
          obtain ⟨s1, s2⟩ := soP_1 HX.out (kp key) hm h1
          rw [hMM] at s2
          have HS := Lib.hid s2
          have HM2 := Lib.hid s1
          clear s1 s2 h1 hMM hm
          have a0 : wr.cell? ⟨w.heap.size, 2, none⟩ = some (.slice (some ⟨g, o, none⟩) rn rc) := HR.out.box.cell 2
          have a1 : wr.cell? ⟨g, o + k * 1, none⟩ = some (.string x.key) := ((HD.out.rd.1.below HR.out.bel).at_ k x HX.out).2 0 _ rfl
          have a1 : wr.cell? ⟨g, o + k, none⟩ = some (.string x.key) := by simpa using a1
          go_wp2_with ((with_reducible refine pick (some 48) ?_); refine wpList_append_lst rdE 9 rfl _ _ _ rfl Try.underlying30 info_rd rfl (w.heap.size + 2) _ _ M rfl (HR.out.own.below ((Below.refl _ _).alloc (Nat.le_refl _) _)) wr.heap.size 0 1 1 [x] rfl (Sl.new_ rdE wr _ (x) _ rfl) _ rfl (M ++ [x]) rfl (by unfold maxLen; omega) (by omega) (by have := HR.out.siz; simp; omega) ?_; intro v2 w2 ho2 hg2 _ _; have HR2 := Lib.hid (Rd.app (x := x) HR.out hg2 ho2 rfl); clear ho2 hg2)
          go_roundw
          case rel => exact ⟨k + 1, by omega, by go_num, by rw [HM2.out], by rw [HS.out]; exact HR2⟩
          case measure => simp [intOf]; omega
        | false =>
          by_cases he : x.key = key
          · have f1 : Op.bytesLess key.toList x.key.toList = false := by rw [he]; exact kl_irr _
            have z1 : (key.toList == x.key.toList) = true := neq_true he.symm
            have z2 : (x.key.toList == key.toList) = true := neq_true he
            obtain ⟨s1, s2⟩ := soP_2 HX.out (kp key) hm h1
            rw [hMM, if_neg (by simp [he]), List.append_nil] at s2
            have HS := Lib.hid s2
            have HM2 := Lib.hid s1
            clear s1 s2 h1 hMM hm he
            have a0 : wr.cell? ⟨w.heap.size, 2, none⟩ = some (.slice (some ⟨g, o, none⟩) rn rc) := HR.out.box.cell 2
            have a1 : wr.cell? ⟨g, o + k * 1, none⟩ = some (.string x.key) := ((HD.out.rd.1.below HR.out.bel).at_ k x HX.out).2 0 _ rfl
            have a1 : wr.cell? ⟨g, o + k, none⟩ = some (.string x.key) := by simpa using a1
            go_wp2_with ((with_reducible refine pick (some 33) ?_); refine wpList_append_lst rdE 9 rfl _ _ _ rfl Try.underlying30 info_rd rfl (w.heap.size + 2) _ _ M rfl (HR.out.own.below ((Below.refl _ _).alloc (Nat.le_refl _) _)) wr.heap.size 0 1 1 [(kp key)] rfl (Sl.new_ rdE wr _ ((kp key)) _ rfl) _ rfl (M ++ [(kp key)]) rfl (by unfold maxLen; omega) (by omega) (by have := HR.out.siz; simp; omega) ?_; intro v2 w2 ho2 hg2 _ _; have HR2 := Lib.hid (Rd.app (x := (kp key)) HR.out hg2 ho2 rfl); clear ho2 hg2; clear a0 a1; have a0 : w2.cell? ⟨w.heap.size, 2, none⟩ = some (.slice (some ⟨g, o, none⟩) rn rc) := HR2.out.box.cell 2; have a1 : w2.cell? ⟨g, o + k, none⟩ = some (.string x.key) := (by have h := ((HD.out.rd.1.below HR2.out.bel).at_ k x HX.out).2 0 _ rfl; simpa [rdE] using h))
            go_roundw
            case rel => exact ⟨k + 1, by omega, by go_num, by rw [HM2.out], by rw [HS.out]; exact HR2⟩
            case measure => simp [intOf]; omega
          · have h3 : kl key x.key = true := by
              cases h4 : kl key x.key with
              | true => rfl
              | false => exact absurd (kl_tri h1 h4) he
            have f1 : Op.bytesLess key.toList x.key.toList = true := h3
            have z2 : (x.key.toList == key.toList) = false := neq_false he
            obtain ⟨s1, s2⟩ := soP_2 HX.out (kp key) hm h1
            rw [hMM, if_pos (by simp [he])] at s2
            have HS := Lib.hid s2
            have HM2 := Lib.hid s1
            clear s1 s2 h1 hMM hm he h3
            have a0 : wr.cell? ⟨w.heap.size, 2, none⟩ = some (.slice (some ⟨g, o, none⟩) rn rc) := HR.out.box.cell 2
            have a1 : wr.cell? ⟨g, o + k * 1, none⟩ = some (.string x.key) := ((HD.out.rd.1.below HR.out.bel).at_ k x HX.out).2 0 _ rfl
            have a1 : wr.cell? ⟨g, o + k, none⟩ = some (.string x.key) := by simpa using a1
            go_wp2_with (first
              | ((with_reducible refine pick (some 33) ?_); refine wpList_append_lst rdE 9 rfl _ _ _ rfl Try.underlying30 info_rd rfl (w.heap.size + 2) _ _ M rfl (HR.out.own.below ((Below.refl _ _).alloc (Nat.le_refl _) _)) wr.heap.size 0 1 1 [(kp key)] rfl (Sl.new_ rdE wr _ ((kp key)) _ rfl) _ rfl (M ++ [(kp key)]) rfl (by unfold maxLen; omega) (by omega) (by have := HR.out.siz; simp; omega) ?_; intro v2 w2 ho2 hg2 _ _; have HR2 := Lib.hid (Rd.app (x := (kp key)) HR.out hg2 ho2 rfl); clear ho2 hg2; clear a0 a1; have a0 : w2.cell? ⟨w.heap.size, 2, none⟩ = some (.slice (some ⟨g, o, none⟩) rn rc) := HR2.out.box.cell 2; have a1 : w2.cell? ⟨g, o + k, none⟩ = some (.string x.key) := (by have h := ((HD.out.rd.1.below HR2.out.bel).at_ k x HX.out).2 0 _ rfl; simpa [rdE] using h))
              | ((with_reducible refine pick (some 48) ?_); refine wpList_append_lst rdE 9 rfl _ _ _ rfl Try.underlying30 info_rd rfl (w.heap.size + 2) _ _ (M ++ [kp key]) rfl (HR2.out.own.below ((Below.refl _ _).alloc (Nat.le_refl _) _)) w2.heap.size 0 1 1 [x] rfl (Sl.new_ rdE w2 _ (x) _ rfl) _ rfl ((M ++ [kp key]) ++ [x]) rfl (by unfold maxLen; simp only [List.length_append, List.length_cons, List.length_nil]; omega) (by simp only [List.length_append, List.length_cons, List.length_nil]; omega) (by have := HR2.out.siz; simp; omega) ?_; intro v3 w3 ho3 hg3 _ _; have HR3 := Lib.hid (Rd.app (x := x) HR2.out hg3 ho3 rfl); clear ho3 hg3))
            go_roundw
            case rel => exact ⟨k + 1, by omega, by go_num, by rw [HM2.out], by rw [HS.out]; exact HR3⟩
            case measure => simp [intOf]; omega
      | true =>
        obtain ⟨s0, s1, s2⟩ := soP_3 HRI.out HX.out (kp key) hm
        have z2 : (x.key.toList == key.toList) = false := neq_false s0
        rw [hMM] at s2
        have HS := Lib.hid s2
        have HM2 := Lib.hid s1
        clear s0 s1 s2 hMM hm
        have a0 : wr.cell? ⟨w.heap.size, 2, none⟩ = some (.slice (some ⟨g, o, none⟩) rn rc) := HR.out.box.cell 2
        have a1 : wr.cell? ⟨g, o + k * 1, none⟩ = some (.string x.key) := ((HD.out.rd.1.below HR.out.bel).at_ k x HX.out).2 0 _ rfl
        have a1 : wr.cell? ⟨g, o + k, none⟩ = some (.string x.key) := by simpa using a1
        go_wp2_with ((with_reducible refine pick (some 48) ?_); refine wpList_append_lst rdE 9 rfl _ _ _ rfl Try.underlying30 info_rd rfl (w.heap.size + 2) _ _ M rfl (HR.out.own.below ((Below.refl _ _).alloc (Nat.le_refl _) _)) wr.heap.size 0 1 1 [x] rfl (Sl.new_ rdE wr _ (x) _ rfl) _ rfl (M ++ [x]) rfl (by unfold maxLen; omega) (by omega) (by have := HR.out.siz; simp; omega) ?_; intro v2 w2 ho2 hg2 _ _; have HR2 := Lib.hid (Rd.app (x := x) HR.out hg2 ho2 rfl); clear ho2 hg2)
        go_roundw
        case rel => exact ⟨k + 1, by omega, by go_num, by rw [HM2.out], by rw [HS.out]; exact HR2⟩
        case measure => simp [intOf]; omega
    · obtain rfl : k = rn := by omega
      have e : s.rd.take k = s.rd := List.take_of_length_le (by rw [HLN.out]; exact Nat.le_refl _)
      rw [e] at HR hml ⊢
      have hend := soP_end (kp key) s.rd
      obtain ⟨M, hMM⟩ : ∃ M, soP (kp key) s.rd = M := ⟨_, rfl⟩
      rw [hMM] at HR hml hend
      cases hm : metL key s.rd with
      | true =>
        have HPUT : Hid (putP (kp key) s.rd = M) := Lib.hid (by rw [hend, hm]; simp)
        clear hend hm hMM e
        obtain ⟨h, hv, hss, hbk⟩ := own_sl HR.out.own
        subst hv
        have HSS := Lib.hid hss
        have HBK := Lib.hid hbk
        have b2 : wr.cell? ⟨w.heap.size, 2, none⟩ = some (.slice ra k rc) := HR.out.box.cell 2
        have bf : wr.frozen? ⟨w.heap.size, 2, none⟩ = false := HR.out.box.frozen 2
        clear hss hbk
        go_upto_region 15 with (fail)
        obtain ⟨W5, hW5⟩ : ∃ W5, wr.setCell ⟨w.heap.size, 2, none⟩ (.slice h.a h.n h.c) = W5 := ⟨_, rfl⟩
        have q1 : Blk W5 w.heap.size #[.slice b.a b.n b.c, .slice wt.a wt.n wt.c, .slice h.a h.n h.c, .slice rg.a rg.n rg.c] 32 := by rw [← hW5]; exact HR.out.box.set_ 2 _
        have q2 : Blk W5 (w.heap.size + 1) zeroV 32 := by rw [← hW5]; exact HR.out.res.far (by simp) _
        have q3 : Below w.heap.size w W5 := by rw [← hW5]; exact HR.out.bel.setCell (Nat.le_refl _) _
        have q4 : Ss rdE W5 h (putP (kp key) s.rd) := by
          rw [← hW5, HPUT.out]
          exact ⟨sl_far HSS.out.1 (fun bb oo hh => by have := HBK.out bb oo hh; simp; omega) _, HSS.out.2⟩
        change Code.wp _ _ _ _ (wr.setCell ⟨w.heap.size, 2, none⟩ (.slice h.a h.n h.c))
        rw [hW5]
        have HDV : Hid (Dv W5 (s.read key) b wt h rg) := Lib.hid ⟨HD.out.base.below q3, HD.out.wr.below q3, q4, HD.out.rg.below q3⟩
        have HQ1 := Lib.hid q1
        have HQ2 := Lib.hid q2
        have HQ3 := Lib.hid q3
        obtain ⟨x, y, hxy⟩ := got_form (getL key s.shown)
        have HXY := Lib.hid hxy
        clear q1 q2 q3 q4 hW5 b2 bf hxy
        go_wp2_with (first
          | ((with_reducible refine pick (some 59) ?_); refine load_blk rfl 32 _ rfl w.heap.size rfl 32 #[.slice b.a b.n b.c, .slice wt.a wt.n wt.c, .slice h.a h.n h.c, .slice rg.a rg.n rg.c] _ HQ1.out Try.underlying32 rfl info_view ?_)
          | (go_at_call 43; refine (shown_calls (s.read key) b wt h rg _ HDV.out HLB.out (ok_read HOK.out key)).mono ?_; rintro e w6 ⟨h6, rfl, hs6, hb6⟩; have HS6 := Lib.hid hs6; have HQ6 := Lib.hid (HQ1.out.below hb6); have HR6 := Lib.hid (HQ2.out.below hb6); have HB6 := Lib.hid (keeps HQ3.out hb6); have HD6 := Lib.hid (HDV.out.below hb6); clear hs6 hb6)
          | (go_at_call 42; refine (get_is key HS6.out (by have := shown_len s.base s.wr; have := HLB.out; have := HOK.out.lw; show (shownL s.base s.wr).length ≤ _; omega) HXY.out).mono ?_; rintro e w7 ⟨rfl, rfl⟩))
        obtain ⟨d0, d1, d2, d3⟩ : w6.cell? ⟨w.heap.size, 0, none⟩ = some (.slice b.a b.n b.c) ∧ w6.cell? ⟨w.heap.size, 1, none⟩ = some (.slice wt.a wt.n wt.c) ∧ w6.cell? ⟨w.heap.size, 2, none⟩ = some (.slice h.a h.n h.c) ∧ w6.cell? ⟨w.heap.size, 3, none⟩ = some (.slice rg.a rg.n rg.c) := ⟨HQ6.out.cell 0, HQ6.out.cell 1, HQ6.out.cell 2, HQ6.out.cell 3⟩
        obtain ⟨r0, r1, r2, r3⟩ : w6.cell? ⟨w.heap.size + 1, 0, none⟩ = some (.slice none 0 0) ∧ w6.cell? ⟨w.heap.size + 1, 1, none⟩ = some (.slice none 0 0) ∧ w6.cell? ⟨w.heap.size + 1, 2, none⟩ = some (.slice none 0 0) ∧ w6.cell? ⟨w.heap.size + 1, 3, none⟩ = some (.slice none 0 0) := ⟨HR6.out.cell 0, HR6.out.cell 1, HR6.out.cell 2, HR6.out.cell 3⟩
        obtain ⟨f0, f1, f2, f3⟩ : w6.frozen? ⟨w.heap.size + 1, 0, none⟩ = false ∧ w6.frozen? ⟨w.heap.size + 1, 1, none⟩ = false ∧ w6.frozen? ⟨w.heap.size + 1, 2, none⟩ = false ∧ w6.frozen? ⟨w.heap.size + 1, 3, none⟩ = false := ⟨HR6.out.frozen 0, HR6.out.frozen 1, HR6.out.frozen 2, HR6.out.frozen 3⟩
        go_region_law (fail)
        all_goals go_wp2_with fail
        have hz : Blk ((((w6.setCell ⟨w.heap.size + 1, 0, none⟩ (.slice b.a b.n b.c)).setCell ⟨w.heap.size + 1, 1, none⟩ (.slice wt.a wt.n wt.c)).setCell ⟨w.heap.size + 1, 2, none⟩ (.slice h.a h.n h.c)).setCell ⟨w.heap.size + 1, 3, none⟩ (.slice rg.a rg.n rg.c)).drew (w.heap.size + 1) #[.slice b.a b.n b.c, .slice wt.a wt.n wt.c, .slice h.a h.n h.c, .slice rg.a rg.n rg.c] 32 := ((((HR6.out.set_ 0 (.slice b.a b.n b.c)).set_ 1 (.slice wt.a wt.n wt.c)).set_ 2 (.slice h.a h.n h.c)).set_ 3 (.slice rg.a rg.n rg.c)).drew
        have hz2 : Below w6.heap.size w6 w6 := Below.refl _ _
        have hbz : Below w.heap.size w ((((w6.setCell ⟨w.heap.size + 1, 0, none⟩ (.slice b.a b.n b.c)).setCell ⟨w.heap.size + 1, 1, none⟩ (.slice wt.a wt.n wt.c)).setCell ⟨w.heap.size + 1, 2, none⟩ (.slice h.a h.n h.c)).setCell ⟨w.heap.size + 1, 3, none⟩ (.slice rg.a rg.n rg.c)).drew := ((((HB6.out.setCell (by simp) _).setCell (by simp) _).setCell (by simp) _).setCell (by simp) _).drew
        refine bodyPost_ret (v := .tuple #[.string x, .bool y, .agg #[.slice b.a b.n b.c, .slice wt.a wt.n wt.c, .slice h.a h.n h.c, .slice rg.a rg.n rg.c]]) (results_tmp2_row rfl _ _ (w.heap.size + 1) 32 _ (0, 0) _ rfl (.string x) rfl (.bool y) rfl hz Try.underlying32 rfl info_view) rfl ?_
        refine ⟨x, y, h, rfl, HXY.out, ?_, hbz, fun bb oo hh => Nat.le_trans (Nat.le_add_right _ _) (HBK.out bb oo hh)⟩
        refine ⟨HD.out.base.below hbz, HD.out.wr.below hbz, ?_, HD.out.rg.below hbz⟩
        have hne : ∀ (q : Nat) (bb oo : Nat), h.a = some ⟨bb, oo, none⟩ → bb ≠ (⟨w.heap.size + 1, q, none⟩ : Addr).block := fun q bb oo hh => by have := HBK.out bb oo hh; simp; omega
        exact Ss.below (w := (((w6.setCell ⟨w.heap.size + 1, 0, none⟩ (.slice b.a b.n b.c)).setCell ⟨w.heap.size + 1, 1, none⟩ (.slice wt.a wt.n wt.c)).setCell ⟨w.heap.size + 1, 2, none⟩ (.slice h.a h.n h.c)).setCell ⟨w.heap.size + 1, 3, none⟩ (.slice rg.a rg.n rg.c)) ⟨sl_far (sl_far (sl_far (sl_far HD6.out.rd.1 (hne 0) _) (hne 1) _) (hne 2) _) (hne 3) _, HD6.out.rd.2⟩ ((Below.refl _ _).drew)
      | false =>
        have HPUT : Hid (putP (kp key) s.rd = M ++ [kp key]) := Lib.hid (by rw [hend, hm]; simp)
        clear hend hm hMM e
        go_upto_region 14 with ((with_reducible refine pick (some 55) ?_); refine wpList_append_lst rdE 9 rfl _ _ _ rfl Try.underlying30 info_rd rfl (w.heap.size + 2) _ _ M rfl (HR.out.own.below ((Below.refl _ _).alloc (Nat.le_refl _) _)) wr.heap.size 0 1 1 [(kp key)] rfl (Sl.new_ rdE wr _ (kp key) _ rfl) _ rfl (M ++ [kp key]) rfl (by unfold maxLen; omega) (by omega) (by have := HR.out.siz; simp; omega) ?_; intro v2 w2 ho2 hg2 _ _; have HR2 := Lib.hid (Rd.app (x := kp key) HR.out hg2 ho2 rfl); clear ho2 hg2)
        obtain ⟨h, hv, hss, hbk⟩ := own_sl HR2.out.own
        subst hv
        have HSS := Lib.hid hss
        have HBK := Lib.hid hbk
        have b2 : w2.cell? ⟨w.heap.size, 2, none⟩ = some (.slice ra k rc) := HR2.out.box.cell 2
        have bf : w2.frozen? ⟨w.heap.size, 2, none⟩ = false := HR2.out.box.frozen 2
        clear hss hbk
        go_upto_region 15 with (fail)
        obtain ⟨W5, hW5⟩ : ∃ W5, w2.setCell ⟨w.heap.size, 2, none⟩ (.slice h.a h.n h.c) = W5 := ⟨_, rfl⟩
        have q1 : Blk W5 w.heap.size #[.slice b.a b.n b.c, .slice wt.a wt.n wt.c, .slice h.a h.n h.c, .slice rg.a rg.n rg.c] 32 := by rw [← hW5]; exact HR2.out.box.set_ 2 _
        have q2 : Blk W5 (w.heap.size + 1) zeroV 32 := by rw [← hW5]; exact HR2.out.res.far (by simp) _
        have q3 : Below w.heap.size w W5 := by rw [← hW5]; exact HR2.out.bel.setCell (Nat.le_refl _) _
        have q4 : Ss rdE W5 h (putP (kp key) s.rd) := by
          rw [← hW5, HPUT.out]
          exact ⟨sl_far HSS.out.1 (fun bb oo hh => by have := HBK.out bb oo hh; simp; omega) _, HSS.out.2⟩
        change Code.wp _ _ _ _ (w2.setCell ⟨w.heap.size, 2, none⟩ (.slice h.a h.n h.c))
        rw [hW5]
        have HDV : Hid (Dv W5 (s.read key) b wt h rg) := Lib.hid ⟨HD.out.base.below q3, HD.out.wr.below q3, q4, HD.out.rg.below q3⟩
        have HQ1 := Lib.hid q1
        have HQ2 := Lib.hid q2
        have HQ3 := Lib.hid q3
        obtain ⟨x, y, hxy⟩ := got_form (getL key s.shown)
        have HXY := Lib.hid hxy
        clear q1 q2 q3 q4 hW5 b2 bf hxy
        go_wp2_with (first
          | ((with_reducible refine pick (some 59) ?_); refine load_blk rfl 32 _ rfl w.heap.size rfl 32 #[.slice b.a b.n b.c, .slice wt.a wt.n wt.c, .slice h.a h.n h.c, .slice rg.a rg.n rg.c] _ HQ1.out Try.underlying32 rfl info_view ?_)
          | (go_at_call 43; refine (shown_calls (s.read key) b wt h rg _ HDV.out HLB.out (ok_read HOK.out key)).mono ?_; rintro e w6 ⟨h6, rfl, hs6, hb6⟩; have HS6 := Lib.hid hs6; have HQ6 := Lib.hid (HQ1.out.below hb6); have HR6 := Lib.hid (HQ2.out.below hb6); have HB6 := Lib.hid (keeps HQ3.out hb6); have HD6 := Lib.hid (HDV.out.below hb6); clear hs6 hb6)
          | (go_at_call 42; refine (get_is key HS6.out (by have := shown_len s.base s.wr; have := HLB.out; have := HOK.out.lw; show (shownL s.base s.wr).length ≤ _; omega) HXY.out).mono ?_; rintro e w7 ⟨rfl, rfl⟩))
        obtain ⟨d0, d1, d2, d3⟩ : w6.cell? ⟨w.heap.size, 0, none⟩ = some (.slice b.a b.n b.c) ∧ w6.cell? ⟨w.heap.size, 1, none⟩ = some (.slice wt.a wt.n wt.c) ∧ w6.cell? ⟨w.heap.size, 2, none⟩ = some (.slice h.a h.n h.c) ∧ w6.cell? ⟨w.heap.size, 3, none⟩ = some (.slice rg.a rg.n rg.c) := ⟨HQ6.out.cell 0, HQ6.out.cell 1, HQ6.out.cell 2, HQ6.out.cell 3⟩
        obtain ⟨r0, r1, r2, r3⟩ : w6.cell? ⟨w.heap.size + 1, 0, none⟩ = some (.slice none 0 0) ∧ w6.cell? ⟨w.heap.size + 1, 1, none⟩ = some (.slice none 0 0) ∧ w6.cell? ⟨w.heap.size + 1, 2, none⟩ = some (.slice none 0 0) ∧ w6.cell? ⟨w.heap.size + 1, 3, none⟩ = some (.slice none 0 0) := ⟨HR6.out.cell 0, HR6.out.cell 1, HR6.out.cell 2, HR6.out.cell 3⟩
        obtain ⟨f0, f1, f2, f3⟩ : w6.frozen? ⟨w.heap.size + 1, 0, none⟩ = false ∧ w6.frozen? ⟨w.heap.size + 1, 1, none⟩ = false ∧ w6.frozen? ⟨w.heap.size + 1, 2, none⟩ = false ∧ w6.frozen? ⟨w.heap.size + 1, 3, none⟩ = false := ⟨HR6.out.frozen 0, HR6.out.frozen 1, HR6.out.frozen 2, HR6.out.frozen 3⟩
        go_region_law (fail)
        all_goals go_wp2_with fail
        have hz : Blk ((((w6.setCell ⟨w.heap.size + 1, 0, none⟩ (.slice b.a b.n b.c)).setCell ⟨w.heap.size + 1, 1, none⟩ (.slice wt.a wt.n wt.c)).setCell ⟨w.heap.size + 1, 2, none⟩ (.slice h.a h.n h.c)).setCell ⟨w.heap.size + 1, 3, none⟩ (.slice rg.a rg.n rg.c)).drew (w.heap.size + 1) #[.slice b.a b.n b.c, .slice wt.a wt.n wt.c, .slice h.a h.n h.c, .slice rg.a rg.n rg.c] 32 := ((((HR6.out.set_ 0 (.slice b.a b.n b.c)).set_ 1 (.slice wt.a wt.n wt.c)).set_ 2 (.slice h.a h.n h.c)).set_ 3 (.slice rg.a rg.n rg.c)).drew
        have hz2 : Below w6.heap.size w6 w6 := Below.refl _ _
        have hbz : Below w.heap.size w ((((w6.setCell ⟨w.heap.size + 1, 0, none⟩ (.slice b.a b.n b.c)).setCell ⟨w.heap.size + 1, 1, none⟩ (.slice wt.a wt.n wt.c)).setCell ⟨w.heap.size + 1, 2, none⟩ (.slice h.a h.n h.c)).setCell ⟨w.heap.size + 1, 3, none⟩ (.slice rg.a rg.n rg.c)).drew := ((((HB6.out.setCell (by simp) _).setCell (by simp) _).setCell (by simp) _).setCell (by simp) _).drew
        refine bodyPost_ret (v := .tuple #[.string x, .bool y, .agg #[.slice b.a b.n b.c, .slice wt.a wt.n wt.c, .slice h.a h.n h.c, .slice rg.a rg.n rg.c]]) (results_tmp2_row rfl _ _ (w.heap.size + 1) 32 _ (0, 0) _ rfl (.string x) rfl (.bool y) rfl hz Try.underlying32 rfl info_view) rfl ?_
        refine ⟨x, y, h, rfl, HXY.out, ?_, hbz, fun bb oo hh => Nat.le_trans (Nat.le_add_right _ _) (HBK.out bb oo hh)⟩
        refine ⟨HD.out.base.below hbz, HD.out.wr.below hbz, ?_, HD.out.rg.below hbz⟩
        have hne : ∀ (q : Nat) (bb oo : Nat), h.a = some ⟨bb, oo, none⟩ → bb ≠ (⟨w.heap.size + 1, q, none⟩ : Addr).block := fun q bb oo hh => by have := HBK.out bb oo hh; simp; omega
        exact Ss.below (w := (((w6.setCell ⟨w.heap.size + 1, 0, none⟩ (.slice b.a b.n b.c)).setCell ⟨w.heap.size + 1, 1, none⟩ (.slice wt.a wt.n wt.c)).setCell ⟨w.heap.size + 1, 2, none⟩ (.slice h.a h.n h.c)).setCell ⟨w.heap.size + 1, 3, none⟩ (.slice rg.a rg.n rg.c)) ⟨sl_far (sl_far (sl_far (sl_far HD6.out.rd.1 (hne 0) _) (hne 1) _) (hne 2) _) (hne 3) _, HD6.out.rd.2⟩ ((Below.refl _ _).drew)
end Go.Proofs.Ytdnenikplajmaaa.ViewG
