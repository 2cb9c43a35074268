/- The project's tree: At, and all that layer 10's laws ask of it. -/
import Derived.Test.YtbdokofdbeccdaaDoorTreeQ
import Derived.Test.YtbdokofdbeccdaaDoorTreeJ
import Derived.Test.YtbdokofdbeccdaaDoorTreeK
namespace Go.Proofs.YtbdokofdbeccdaaDoor.TreeG
set_option linter.unusedVariables false
set_option linter.unusedSimpArgs false
open Go.RowKit
open Go.Proofs.YtbdokofdbeccdaaDoor.Byte Go.Proofs.YtbdokofdbeccdaaDoor.KeysM Go.Proofs.YtbdokofdbeccdaaDoor.TreeM Go.Proofs.YtbdokofdbeccdaaDoor.Own Go.Proofs.YtbdokofdbeccdaaDoor.Rw Go.Proofs.YtbdokofdbeccdaaDoor.Lst Go.Proofs.YtbdokofdbeccdaaDoor.TreeR Go.Proofs.YtbdokofdbeccdaaDoor.TreeS Go.Proofs.YtbdokofdbeccdaaDoor.TreeC Go.Proofs.YtbdokofdbeccdaaDoor.TreeL Go.Proofs.YtbdokofdbeccdaaDoor.TreeB Go.Proofs.YtbdokofdbeccdaaDoor.TreeD Go.Proofs.YtbdokofdbeccdaaDoor.TreeF Go.Proofs.YtbdokofdbeccdaaDoor.TreeK Go.Proofs.YtbdokofdbeccdaaDoor.TreeJ Go.Proofs.YtbdokofdbeccdaaDoor.TreeQ

theorem results_row_tmp {P : Program} {fn : Func} {p u : Tmp} {ty : TypeId} (h : fn.results = #[.cell p ty, .tmp u]) (tmps : Array Value) (w : World) (g : Nat) (t : TypeId) (cs : Array Value) (fr : Nat × Nat) (d : TypeDesc)
    (hp : tmps.getD p undef = .pointer (some ⟨g, 0, none⟩)) (x : Value) (hx : tmps.getD u undef = x) (hg : w.heap[g]? = some (.cells cs t fr))
    (hu : P.underlying ty = some d) (hd : (match d with | .struct _ | .array _ _ => true | _ => false) = true) (hi : (P.info? ty).map (·.size) = some cs.size) :
    (results fn tmps).run P w = .ok (.tuple #[.agg cs, x]) w := by
  subst hx
  rw [results_cell_tmp h]
  have hp' : tmps[p]?.getD undef = .pointer (some ⟨g, 0, none⟩) := by simpa using hp
  simp [hp', asAddr, run_loadVar_row w g t ty cs fr d hg hu hd hi, Result.andThen]
theorem at_l {l r : Tt} {q : Pr} {j : Nat} (h : j < l.sz) : (Tt.nd l q r).ino[j]? = l.ino[j]? := List.getElem?_append_left (by rw [Tt.sz_ino]; exact h)
theorem at_m {l r : Tt} {q : Pr} : (Tt.nd l q r).ino[l.sz]? = some q := by
  show (l.ino ++ q :: r.ino)[l.sz]? = _
  rw [List.getElem?_append_right (by rw [Tt.sz_ino]; exact Nat.le_refl _), Tt.sz_ino, Nat.sub_self]
  rfl
theorem at_r {l r : Tt} {q : Pr} {j : Nat} (h : l.sz < j) : (Tt.nd l q r).ino[j]? = r.ino[j - l.sz - 1]? := by
  show (l.ino ++ q :: r.ino)[j]? = _
  rw [List.getElem?_append_right (by rw [Tt.sz_ino]; omega), Tt.sz_ino, show j - l.sz = (j - l.sz - 1) + 1 by omega, List.getElem?_cons_succ, Nat.add_sub_cancel]
set_option maxRecDepth 100000 in
set_option maxHeartbeats 1000000 in
theorem at_yes (b : Nat) (A : Option Addr) (t : Tt) (j : Nat) (w : World) (h : Vn w b A t) (hn : t.sz ≤ 60000) (hj : j < t.sz) (X : Pr) (hX : t.ino[j]? = some X) :
    Calls Tryd.prog 62 #[.pointer (some ⟨b, 0, none⟩), .int .i64 (j : Nat)] w fun e w' => e = .returned (.tuple #[.agg #[.string X.key, .string X.value, .bool X.gone], .bool true]) ∧ Below w.heap.size w w' := by
  have hb1 : Below w.heap.size w (w.alloc (.cells #[.string ⟨#[]⟩, .string ⟨#[]⟩, .bool false] 79)) := (Below.refl _ _).alloc (Nat.le_refl _) _
  have HN := Lib.hid (h.2.below hb1)
  have HT := Lib.hid (h.1.below hb1)
  have HB1 := Lib.hid hb1
  have HR := Lib.hid (Blk.new_ w #[.string ⟨#[]⟩, .string ⟨#[]⟩, .bool false] 79)
  have HX := Lib.hid hX
  obtain ⟨n, e1⟩ : ∃ n, t.sz = n := ⟨_, rfl⟩
  rw [e1] at hn hj
  have E1 := Lib.hid e1
  have hjj : j < n := hj
  have HJ := Lib.hid hjj
  have d1 : decide ((j : Int) < 0) = false := decide_eq_false (by omega)
  have d2 : decide ((n : Int) ≤ (j : Int)) = false := decide_eq_false (by omega)
  have d3 : decide (n ≤ j) = false := decide_eq_false (by omega)
  clear h hb1 e1 hX
  go_enter Tryd.func62, Tryd.ntmps62
  go_wp2_with (first
    | (go_at_call 64; refine (top_calls b A _ HT.out).mono ?_; rintro e w1 ⟨rfl, rfl⟩)
    | (go_at_call 76; refine (size_calls t A _ HN.out n E1.out).mono ?_; rintro e w1 ⟨rfl, rfl⟩))
  obtain ⟨W, hW⟩ : ∃ W, w.alloc (.cells #[.string ⟨#[]⟩, .string ⟨#[]⟩, .bool false] 79) = W := ⟨_, rfl⟩
  rw [hW] at HN HT HB1 HR ⊢
  clear hW d1 d2 d3
  go_loopg [1, 6] t.sz (fun m i n wr => ∃ (t' : Tt) (A' : Option Addr) (k : Nat), i = .int .i64 k ∧ n = .pointer A' ∧ Hid (Nd W t' A') ∧ k < 60000 ∧ Hid (k < t'.sz) ∧ Hid (t'.ino[k]? = some X) ∧ Hid (t'.sz ≤ m) ∧ wr = W)
  case atStart => exact ⟨t, A, j, rfl, rfl, HN, by omega, Lib.hid (by rw [E1.out]; exact HJ.out), HX, Lib.hid (Nat.le_refl _), rfl⟩
  case round =>
    obtain ⟨t', A', k, rfl, rfl, HN', hk6, HK', HX', HM, rfl⟩ := hrel
    cases t' with
    | no => exact absurd HK'.out (by simp [Tt.sz])
    | nd l q r =>
      obtain ⟨d, C, D, rfl, hk, hl, hr⟩ := HN'.out
      have c3 : wr.cell? ⟨d, 3, none⟩ = some (.pointer C) := hk.cell 3
      have c4 : wr.cell? ⟨d, 4, none⟩ = some (.pointer D) := hk.cell 4
      have c0 : wr.cell? ⟨d, 0, none⟩ = some (.string q.key) := hk.cell 0
      have c1 : wr.cell? ⟨d, 1, none⟩ = some (.string q.value) := hk.cell 1
      have c2 : wr.cell? ⟨d, 2, none⟩ = some (.bool q.gone) := hk.cell 2
      have HL := Lib.hid hl
      have HRR := Lib.hid hr
      obtain ⟨n1, hn1⟩ : ∃ n, l.sz = n := ⟨_, rfl⟩
      have HN1 := Lib.hid hn1
      have hk7 := HK'.out
      simp only [Tt.sz] at hk7
      clear hk hl hr hj hjj
      rcases (show k < n1 ∨ k = n1 ∨ n1 < k by omega) with q1 | q1 | q1
      · have d1 : decide ((k : Int) < (n1 : Int)) = true := decide_eq_true (by omega)
        have HX2 := Lib.hid ((at_l (q := q) (r := r) (by rw [hn1]; exact q1)).symm.trans HX'.out)
        have HK2 : Hid (k < l.sz) := Lib.hid (by rw [hn1]; exact q1)
        clear hn1 hk7
        go_wp2_with (go_at_call 76; refine (size_calls l C _ HL.out n1 HN1.out).mono ?_; rintro e w1 ⟨rfl, rfl⟩)
        go_roundg l.sz
        case rel => exact ⟨l, _, k, rfl, rfl, HL, hk6, HK2, HX2, Lib.hid (Nat.le_refl _), rfl⟩
        case measure => have := HM.out; simp only [Tt.sz] at this; omega
      · subst q1
        have hX : q = X := by
          have := HX'.out
          rw [← hn1, at_m] at this
          injection this
        subst hX
        have d1 : decide ((k : Int) < (k : Int)) = false := decide_eq_false (by omega)
        clear hn1 hk7
        go_wp2_with (first
          | (go_at_call 76; refine (size_calls l C _ HL.out k HN1.out).mono ?_; rintro e w1 ⟨rfl, rfl⟩)
          | ((with_reducible refine pick none ?_); refine store_blk rfl 79 _ _ rfl w.heap.size #[.string q.key, .string q.value, .bool q.gone] rfl rfl 79 #[.string ⟨#[]⟩, .string ⟨#[]⟩, .bool false] HR.out info_pair3 rfl (by simp [Value.oneCell']) ?_; intro w5 hk5 hg5))
        exact bodyPost_ret (v := .tuple #[.agg #[.string q.key, .string q.value, .bool q.gone], .bool true]) (results_row_tmp rfl _ _ w.heap.size 79 _ (0, 0) _ rfl _ rfl hk5 Tryd.underlying79 rfl info_pair3) rfl ⟨rfl, HB1.out.grown hg5 (by have := HR.out.lt; omega) (fun g hv => by injection hv with hv; omega)⟩
      · have d1 : decide ((k : Int) < (n1 : Int)) = false := decide_eq_false (by omega)
        have d2 : decide ((n1 : Int) < (k : Int)) = true := decide_eq_true (by omega)
        obtain ⟨k2, hk2⟩ : ∃ k2 : Nat, k = k2 + n1 + 1 := ⟨k - n1 - 1, by omega⟩
        have HX2 : Hid (r.ino[k2]? = some X) := Lib.hid (by
          have := HX'.out
          rw [at_r (by rw [hn1]; exact q1), hn1, show k - n1 - 1 = k2 by omega] at this
          exact this)
        have HK2 : Hid (k2 < r.sz) := Lib.hid (by omega)
        have HKK := Lib.hid hk2
        have hle : k2 ≤ k := by omega
        clear hn1 hk7 hk2
        go_wp2_with (go_at_call 76; refine (size_calls l C _ HL.out n1 HN1.out).mono ?_; rintro e w1 ⟨rfl, rfl⟩)
        go_roundg r.sz
        case rel => exact ⟨r, _, k2, by have := HKK.out; congr 1; omega, rfl, HRR, by omega, HK2, HX2, Lib.hid (Nat.le_refl _), rfl⟩
        case measure => have := HM.out; simp only [Tt.sz] at this; omega
/-- The project's tree. -/
def TRep (w : World) (v : Value) (L : List Pr) (h : Nat) : Prop := ∃ b A t, v = .pointer (some ⟨b, 0, none⟩) ∧ Vn w b A t ∧ t.ino = L ∧ Rise L ∧ t.Avl ∧ t.ht = h
theorem vn_new {W : World} {A : Option Addr} {t : Tt} (h : Nd W t A) : Vn (W.alloc (.cells #[.pointer A] 60)) W.heap.size A t := ⟨Blk.new_ _ _ _, h.below ((Below.refl _ _).alloc (Nat.le_refl _) _)⟩
theorem new_calls (w : World) : Calls Tryd.prog 7 #[] w fun e w' => ∃ v h, e = .returned v ∧ TRep w' v [] h ∧ Below w.heap.size w w' := by
  have H : Calls Tryd.prog 7 #[] w fun e w' => e = .returned (.pointer (some ⟨w.heap.size, 0, none⟩)) ∧ w' = w.alloc (.cells #[.pointer none] 60) := by
    go_enter Tryd.func7, Tryd.ntmps7
    go_wp2_with fail
    go_ret
    exact ⟨rfl, rfl⟩
  refine H.mono ?_
  rintro e w' ⟨rfl, rfl⟩
  exact ⟨_, 0, rfl, ⟨_, none, .no, rfl, vn_new rfl, rfl, List.Pairwise.nil, trivial, rfl⟩, (Below.refl _ _).alloc (Nat.le_refl _) _⟩
/-- The call answers with a version of this tree. -/
def VnR (t : Tt) (w : World) (e : Ending) (w' : World) : Prop := ∃ b A, e = .returned (.pointer (some ⟨b, 0, none⟩)) ∧ Vn w' b A t ∧ Below w.heap.size w w'
set_option maxRecDepth 100000 in
set_option maxHeartbeats 1000000 in
theorem setm_calls (b : Nat) (A : Option Addr) (t : Tt) (k x : ByteArray) (w : World) (h : Vn w b A t) (hn : t.sz ≤ 60000) : Calls Tryd.prog 45 #[.pointer (some ⟨b, 0, none⟩), .string k, .string x] w (VnR (t.set ⟨k, x, false⟩) w) := by
  have HN := Lib.hid h.2
  have HT := Lib.hid h.1
  have HS := Lib.hid hn
  clear h hn
  go_enter Tryd.func45, Tryd.ntmps45
  go_wp2_with (first
    | (go_at_call 64; refine (top_calls b A _ HT.out).mono ?_; rintro e w1 ⟨rfl, rfl⟩)
    | (go_at_call 65; refine (set_calls ⟨k, x, false⟩ t A _ HS.out HN.out).mono ?_; rintro e w2 ⟨A2, rfl, hn2, hb2⟩; have HN2 := Lib.hid hn2; have HB2 := Lib.hid hb2; clear hn2 hb2))
  go_ret
  exact ⟨_, _, rfl, vn_new HN2.out, HB2.out.alloc HB2.out.size _⟩
set_option maxRecDepth 100000 in
set_option maxHeartbeats 1000000 in
theorem cutm_yes (b : Nat) (A : Option Addr) (t : Tt) (k : ByteArray) (w : World) (h : Vn w b A t) (hr : Rise t.ino) (hn : t.sz ≤ 60000) (p : Pr) (hG : getL k t.ino = some p) (hp : ∃ x ∈ t.ino, x.key = k) : Calls Tryd.prog 50 #[.pointer (some ⟨b, 0, none⟩), .string k] w (VnR (t.cut k) w) := by
  have HG := Lib.hid (get_calls b A t k w h hr (some p) hG)
  have HN := Lib.hid h.2
  have HT := Lib.hid h.1
  have HS := Lib.hid hn
  have HR := Lib.hid hr
  have HP := Lib.hid hp
  clear h hn hr hp hG
  go_enter Tryd.func50, Tryd.ntmps50
  go_wp2_with (first
    | (go_at_call 51; refine HG.out.mono ?_; rintro e w1 ⟨rfl, rfl⟩; dsimp only [GotV])
    | (go_at_call 64; refine (top_calls b A _ HT.out).mono ?_; rintro e w1 ⟨rfl, rfl⟩)
    | (go_at_call 66; refine (cut_calls t k A _ HS.out HR.out HP.out HN.out).mono ?_; rintro e w2 ⟨A2, rfl, hn2, hb2⟩; have HN2 := Lib.hid hn2; have HB2 := Lib.hid hb2; clear hn2 hb2))
  go_ret
  exact ⟨_, _, rfl, vn_new HN2.out, HB2.out.alloc HB2.out.size _⟩
set_option maxRecDepth 100000 in
set_option maxHeartbeats 1000000 in
theorem cutm_no (b : Nat) (A : Option Addr) (t : Tt) (k : ByteArray) (w : World) (h : Vn w b A t) (hr : Rise t.ino) (hG : getL k t.ino = none) : Calls Tryd.prog 50 #[.pointer (some ⟨b, 0, none⟩), .string k] w (VnR t w) := by
  have HG := Lib.hid (get_calls b A t k w h hr none hG)
  have HV := Lib.hid h
  clear h hr hG
  go_enter Tryd.func50, Tryd.ntmps50
  go_wp2_with (go_at_call 51; refine HG.out.mono ?_; rintro e w1 ⟨rfl, rfl⟩; dsimp only [GotV])
  go_ret
  exact ⟨_, _, rfl, HV.out, Below.refl _ _⟩
set_option maxRecDepth 100000 in
set_option maxHeartbeats 1000000 in
theorem len_calls (b : Nat) (A : Option Addr) (t : Tt) (w : World) (h : Vn w b A t) (n : Nat) (hn : t.sz = n) : Calls Tryd.prog 61 #[.pointer (some ⟨b, 0, none⟩)] w fun e w' => e = .returned (.int .i64 (n : Nat)) ∧ w = w' := by
  have HN := Lib.hid h.2
  have HT := Lib.hid h.1
  have HS := Lib.hid hn
  clear h hn
  go_enter Tryd.func61, Tryd.ntmps61
  go_wp2_with (first
    | (go_at_call 64; refine (top_calls b A _ HT.out).mono ?_; rintro e w1 ⟨rfl, rfl⟩)
    | (go_at_call 76; refine (size_calls t A _ HN.out n HS.out).mono ?_; rintro e w1 ⟨rfl, rfl⟩))
  go_ret
  exact ⟨rfl, rfl⟩
set_option maxRecDepth 100000 in
set_option maxHeartbeats 1000000 in
theorem range_made (b : Nat) (A : Option Addr) (t : Tt) (x y : ByteArray) (w : World) (h : Vn w b A t) (hr : Rise t.ino) (hn : t.sz ≤ 60000) : Calls Tryd.prog 53 #[.pointer (some ⟨b, 0, none⟩), .string x, .string y] w (Made (rangeL x y t.ino) w) := by
  have HN := Lib.hid h.2
  have HT := Lib.hid h.1
  have HS := Lib.hid hn
  have HR := Lib.hid hr
  clear h hn hr
  have G := Lib.hid (gather_calls x y t A w w.heap.size (.slice none 0 0) [] HR.out HN.out (So.nil_ _ _ _ _) (Nat.le_refl _) (by have := HS.out; simp only [List.length_nil]; omega))
  go_enter Tryd.func53, Tryd.ntmps53
  go_wp2_with (first
    | (go_at_call 64; refine (top_calls b A _ HT.out).mono ?_; rintro e w1 ⟨rfl, rfl⟩)
    | (go_at_call 69; refine G.out.mono ?_; rintro e w2 ⟨v, rfl, ho, hb2, _, _⟩; have HO := Lib.hid ho; have HB2 := Lib.hid hb2; clear ho hb2))
  go_ret
  exact ⟨_, rfl, HO.out, HB2.out⟩
theorem has_get {L : List Pr} {k : ByteArray} {p : Pr} (h : getL k L = some p) : ∃ x ∈ L, x.key = k := ⟨p, List.mem_of_find?_eq_some h, by simpa using List.find?_some h⟩
theorem cut_none {L : List Pr} {k : ByteArray} (h : getL k L = none) : cutL k L = L := List.filter_eq_self.2 fun p hp => by
  have := List.find?_eq_none.1 h p hp
  simpa using this
end Go.Proofs.YtbdokofdbeccdaaDoor.TreeG
