/- Merged: ViewKn ViewKr ViewKs. -/
import Derived.Test.YtbdokofdbeccdaaDoorWalkReadsMBA
import Derived.WalkSmall
import Derived.Test.YtbdokofdbeccdaaDoorWalkReadsMBR
import Derived.Test.YtbdokofdbeccdaaDoorWalkReadsMAP
import Derived.Test.YtbdokofdbeccdaaDoorTx
/- The project's tree where it may be nil: what layers above use. -/
namespace Go.Proofs.YtbdokofdbeccdaaDoor.ViewKn
set_option linter.unusedVariables false
set_option linter.unusedSimpArgs false
open Go.RowKit
open Go.Proofs.YtbdokofdbeccdaaDoor.Byte Go.Proofs.YtbdokofdbeccdaaDoor.KeysM Go.Proofs.YtbdokofdbeccdaaDoor.TreeM Go.Proofs.YtbdokofdbeccdaaDoor.TreeB Go.Proofs.YtbdokofdbeccdaaDoor.TreeD Go.Proofs.YtbdokofdbeccdaaDoor.TreeE Go.Proofs.YtbdokofdbeccdaaDoor.TreeF Go.Proofs.YtbdokofdbeccdaaDoor.TreeJ Go.Proofs.YtbdokofdbeccdaaDoor.TreeQ Go.Proofs.YtbdokofdbeccdaaDoor.TreeG Go.Proofs.YtbdokofdbeccdaaDoor.TreeH Go.Proofs.YtbdokofdbeccdaaDoor.Own Go.Proofs.YtbdokofdbeccdaaDoor.Rw Go.Proofs.YtbdokofdbeccdaaDoor.Lst Go.Proofs.YtbdokofdbeccdaaDoor.TreeR Go.Proofs.YtbdokofdbeccdaaDoor.TreeS Go.Proofs.YtbdokofdbeccdaaDoor.TreeL Go.Proofs.YtbdokofdbeccdaaDoor.Chg
variable {w w' : World} {v : Value} {L : List Pr}

set_option maxRecDepth 100000 in
theorem top_nil (w : World) : Calls Tryd.prog 64 #[.pointer none] w fun e w' => e = .returned (.pointer none) ∧ w = w' := by
  go_enter Tryd.func64, Tryd.ntmps64
  go_wp2_with fail
  go_ret
  exact ⟨rfl, rfl⟩
set_option maxRecDepth 100000 in
theorem get_nil (k : ByteArray) (w : World) : Calls Tryd.prog 51 #[.pointer none, .string k] w fun e w' => e = .returned (GotV none) ∧ w = w' := by
  go_enter Tryd.func51, Tryd.ntmps51
  go_wp2_with (go_at_call 64; refine (top_nil _).mono ?_; rintro e w1 ⟨rfl, rfl⟩)
  go_loopg [6] 0 (fun m n wr => n = .pointer none ∧ wr = w)
  case atStart => exact ⟨rfl, rfl⟩
  case round =>
    obtain ⟨rfl, rfl⟩ := hrel
    go_wp2_with fail
    go_ret2
    exact ⟨rfl, rfl⟩
set_option maxRecDepth 100000 in
set_option maxHeartbeats 1000000 in
theorem set_nil (k x : ByteArray) (w : World) : Calls Tryd.prog 45 #[.pointer none, .string k, .string x] w (VnR (Tt.no.set ⟨k, x, false⟩) w) := by
  have HN : Hid (Nd w Tt.no none) := Lib.hid rfl
  have HS : Hid (Tt.no.sz ≤ 60000) := Lib.hid (Nat.zero_le _)
  go_enter Tryd.func45, Tryd.ntmps45
  go_wp2_with (first
    | (go_at_call 64; refine (top_nil _).mono ?_; rintro e w1 ⟨rfl, rfl⟩)
    | (go_at_call 65; refine (set_calls ⟨k, x, false⟩ Tt.no none _ HS.out HN.out).mono ?_; rintro e w2 ⟨A2, rfl, hn2, hb2⟩; have HN2 := Lib.hid hn2; have HB2 := Lib.hid hb2; clear hn2 hb2))
  go_ret
  exact ⟨_, _, rfl, vn_new HN2.out, HB2.out.alloc HB2.out.size _⟩
set_option maxRecDepth 100000 in
theorem cut_nil (k : ByteArray) (w : World) : Calls Tryd.prog 50 #[.pointer none, .string k] w fun e w' => e = .returned (.pointer none) ∧ w = w' := by
  go_enter Tryd.func50, Tryd.ntmps50
  go_wp2_with (go_at_call 51; refine (get_nil _ _).mono ?_; rintro e w1 ⟨rfl, rfl⟩; dsimp only [GotV])
  go_ret
  exact ⟨rfl, rfl⟩
set_option maxRecDepth 100000 in
theorem len_nil (w : World) : Calls Tryd.prog 61 #[.pointer none] w fun e w' => e = .returned (.int .i64 (0 : Nat)) ∧ w = w' := by
  have HN : Hid (Nd w Tt.no none) := Lib.hid rfl
  go_enter Tryd.func61, Tryd.ntmps61
  go_wp2_with (first
    | (go_at_call 64; refine (top_nil _).mono ?_; rintro e w1 ⟨rfl, rfl⟩)
    | (go_at_call 76; refine (size_calls Tt.no none _ HN.out 0 rfl).mono ?_; rintro e w1 ⟨rfl, rfl⟩))
  go_ret
  exact ⟨rfl, rfl⟩
set_option maxRecDepth 100000 in
set_option maxHeartbeats 1000000 in
theorem range_nil (x y : ByteArray) (w : World) : Calls Tryd.prog 53 #[.pointer none, .string x, .string y] w (Made [] w) := by
  have HN : Hid (Nd w Tt.no none) := Lib.hid rfl
  have HR : Hid (Rise Tt.no.ino) := Lib.hid List.Pairwise.nil
  have G := Lib.hid (gather_calls x y Tt.no none w w.heap.size (.slice none 0 0) [] HR.out HN.out (So.nil_ _ _ _ _) (Nat.le_refl _) (by decide))
  go_enter Tryd.func53, Tryd.ntmps53
  go_wp2_with (first
    | (go_at_call 64; refine (top_nil _).mono ?_; rintro e w1 ⟨rfl, rfl⟩)
    | (go_at_call 69; refine G.out.mono ?_; rintro e w2 ⟨v, rfl, ho, hb2, _, _⟩; have HO := Lib.hid ho; have HB2 := Lib.hid hb2; clear ho hb2))
  go_ret
  exact ⟨_, rfl, HO.out, HB2.out⟩
/-- A tree with these pairs, or nil. -/
def TN (w : World) (v : Value) (L : List Pr) : Prop := (v = .pointer none ∧ L = []) ∨ ∃ h, TRep w v L h
theorem TN.of {h : Nat} (r : TRep w v L h) : TN w v L := .inr ⟨h, r⟩
theorem TN.keep (h : TN w v L) (hk : Kept w w') : TN w' v L := by
  rcases h with h | ⟨n, h⟩
  · exact .inl h
  · exact .inr ⟨n, tkeep h hk⟩
theorem TN.below (h : TN w v L) (hb : Below w.heap.size w w') : TN w' v L := h.keep (Kept.of_below hb)
theorem TN.rise (h : TN w v L) : Rise L := by
  rcases h with ⟨_, rfl⟩ | ⟨n, h⟩
  · exact List.Pairwise.nil
  · exact trise h
theorem TN.form (h : TN w v L) : ∃ A, v = .pointer A := by
  rcases h with ⟨rfl, _⟩ | ⟨n, h⟩
  · exact ⟨_, rfl⟩
  · obtain ⟨b, rfl, _⟩ := tform h
    exact ⟨_, rfl⟩
theorem tnset (k x : ByteArray) (h : TN w v L) (hl : L.length ≤ 50000) : Calls Tryd.prog 45 #[v, .string k, .string x] w fun e w' => ∃ v', e = .returned v' ∧ TN w' v' (putL k x L) ∧ Below w.heap.size w w' := by
  rcases h with ⟨rfl, rfl⟩ | ⟨n, h⟩
  · refine (set_nil k x w).mono ?_
    rintro e w' ⟨b', A', rfl, hv', hb'⟩
    exact ⟨_, rfl, .of (h := (Tt.no.set ⟨k, x, false⟩).ht) ⟨b', A', _, rfl, hv', Tt.ino_set .no k x List.Pairwise.nil, rise_put List.Pairwise.nil k x, (Tt.set_avl .no _ trivial).1, rfl⟩, hb'⟩
  · refine (tset k x h hl).mono ?_
    rintro e w' ⟨v', h', rfl, hr, hb⟩
    exact ⟨v', rfl, .of hr, hb⟩
theorem tncut (k : ByteArray) (h : TN w v L) (hl : L.length ≤ 50000) : Calls Tryd.prog 50 #[v, .string k] w fun e w' => ∃ v', e = .returned v' ∧ TN w' v' (cutL k L) ∧ Below w.heap.size w w' := by
  rcases h with ⟨rfl, rfl⟩ | ⟨n, h⟩
  · refine (cut_nil k w).mono ?_
    rintro e w' ⟨rfl, rfl⟩
    exact ⟨_, rfl, .inl ⟨rfl, rfl⟩, Below.refl _ _⟩
  · refine (tcut k h hl).mono ?_
    rintro e w' ⟨v', h', rfl, hr, hb⟩
    exact ⟨v', rfl, .of hr, hb⟩
theorem tnget (k : ByteArray) (h : TN w v L) (hl : L.length ≤ 50000) : Calls Tryd.prog 51 #[v, .string k] w fun e w' => e = .returned (GotV (getL k L)) ∧ w = w' := by
  rcases h with ⟨rfl, rfl⟩ | ⟨n, h⟩
  · exact get_nil k w
  · exact tget k h hl
theorem tnlen (h : TN w v L) (hl : L.length ≤ 50000) : Calls Tryd.prog 61 #[v] w fun e w' => e = .returned (.int .i64 (L.length : Nat)) ∧ w = w' := by
  rcases h with ⟨rfl, rfl⟩ | ⟨n, h⟩
  · exact len_nil w
  · exact tlen h hl
theorem tnrange (x y : ByteArray) (h : TN w v L) (hl : L.length ≤ 50000) : Calls Tryd.prog 53 #[v, .string x, .string y] w (Made (rangeL x y L) w) := by
  rcases h with ⟨rfl, rfl⟩ | ⟨n, h⟩
  · exact range_nil x y w
  · exact trange x y h hl
theorem tnat {X : Pr} {j : Nat} (h : TN w v L) (hl : L.length ≤ 50000) (hX : L[j]? = some X) : Calls Tryd.prog 62 #[v, .int .i64 (j : Nat)] w fun e w' => e = .returned (.tuple #[.agg #[.string X.key, .string X.value, .bool X.gone], .bool true]) ∧ Below w.heap.size w w' := by
  have hj := (List.getElem?_eq_some_iff.1 hX).1
  rcases h with ⟨rfl, rfl⟩ | ⟨n, ⟨b, A, t, rfl, hv, rfl, h2, h3, rfl⟩⟩
  · cases hX
  · rw [Tt.sz_ino] at hl hj
    exact at_yes b A t j w hv (by omega) hj X hX
end Go.Proofs.YtbdokofdbeccdaaDoor.ViewKn

/- The landed view: what it calls of slices (Index, Contains, Clone), and the keys of a tree. -/
namespace Go.Proofs.YtbdokofdbeccdaaDoor.ViewKr
set_option linter.unusedVariables false
set_option linter.unusedSimpArgs false
open Go.RowKit
open Go.Proofs.YtbdokofdbeccdaaDoor.Byte Go.Proofs.YtbdokofdbeccdaaDoor.KeysM Go.Proofs.YtbdokofdbeccdaaDoor.TreeM Go.Proofs.YtbdokofdbeccdaaDoor.ViewM Go.Proofs.YtbdokofdbeccdaaDoor.ViewKm Go.Proofs.YtbdokofdbeccdaaDoor.ViewKn Go.Proofs.YtbdokofdbeccdaaDoor.Own Go.Proofs.YtbdokofdbeccdaaDoor.Rw Go.Proofs.YtbdokofdbeccdaaDoor.Lst Go.Proofs.YtbdokofdbeccdaaDoor.Chg Go.Proofs.YtbdokofdbeccdaaDoor.TreeR Go.Proofs.YtbdokofdbeccdaaDoor.TreeS Go.Proofs.YtbdokofdbeccdaaDoor.TreeL Go.Proofs.YtbdokofdbeccdaaDoor.TreeG Go.Proofs.YtbdokofdbeccdaaDoor.TreeH Go.Proofs.YtbdokofdbeccdaaDoor.Ho Go.Proofs.YtbdokofdbeccdaaDoor.ViewR Go.Proofs.YtbdokofdbeccdaaDoor.ViewG Go.Proofs.YtbdokofdbeccdaaDoor.ViewS

theorem tl_ne {a b : ByteArray} (h : a ≠ b) : a.toList ≠ b.toList := by simpa using TreeQ.neq_false h
theorem eq2 (a b c d : ByteArray) (w : World) : (Op.equalIn 10000 95 (.agg #[.string a, .string b]) (.agg #[.string c, .string d])).run Tryd.prog w = .ok (decide (a = c) && decide (b = d)) w := by
  have u5 := Tryd.underlying9
  have a5 := Tryd.isAgg9
  have z5 := Tryd.sizeOf9
  rw [show (10000 : Nat) = 9999 + 1 from rfl, Op.equalIn]
  simp only [Sem.run_bind, run_underlying Tryd.underlying95, Result.andThen_ok]
  simp only [Std.Legacy.Range.forIn_eq_forIn_range', Std.Legacy.Range.size, Nat.sub_zero, Nat.add_sub_cancel, Nat.div_one, List.range'_succ, List.range'_zero, List.forIn_cons, List.forIn_nil]
  go_simp
  by_cases h1 : a = c
  · subst h1
    by_cases h2 : b = d
    · subst h2
      simp
    · simp [h2, tl_ne h2]
  · by_cases h2 : b = d
    · subst h2
      simp [h1, tl_ne h1]
    · simp [h1, h2, tl_ne h1]
theorem rg_cells {w : World} {b o k : Nat} {x : ByteArray × ByteArray} (h : w.rangeAt b (o + k * rgE.size) (rgE.cells x)) : w.cell? ⟨b, o + k * 2, none⟩ = some (.string x.1) ∧ w.cell? ⟨b, o + k * 2 + 1, none⟩ = some (.string x.2) := ⟨h 0 _ rfl, h 1 _ rfl⟩
/-- Does a range stand there? -/
def HasR (x y : ByteArray) (L : List (ByteArray × ByteArray)) (w : World) (e : Ending) (w' : World) : Prop := ∃ i : Int, e = .returned (.int .i64 i) ∧ decide (0 ≤ i) = hasR x y L ∧ Below w.heap.size w w'
set_option maxRecDepth 100000 in
set_option maxHeartbeats 2000000 in
theorem index_calls (A : Option Addr) (n c : Nat) (L : List (ByteArray × ByteArray)) (x y : ByteArray) (w : World) (hl : Sl rgE w A n L) (hn : n ≤ 100000) :
    Calls Tryd.prog 68 #[.slice A n c, .agg #[.string x, .string y]] w (HasR x y L w) := by
  have HL := Lib.hid hl
  clear hl
  have hb0 : Below w.heap.size w (w.alloc (.cells #[.string x, .string y] 95)) := (Below.refl _ _).alloc (Nat.le_refl _) _
  have HB0 := Lib.hid hb0
  have HX := Lib.hid (Blk.new_ w #[.string x, .string y] 95)
  clear hb0
  go_enter Tryd.func68, Tryd.ntmps68
  go_wp2
  go_loopw [8] (fun i wr => ∃ k : Nat, k ≤ n ∧ i = .int .i64 k ∧ Hid (∀ j p, j < k → L[j]? = some p → ¬ (p.1 = x ∧ p.2 = y)) ∧ Hid (Below (w.alloc (.cells #[.string x, .string y] 95)).heap.size (w.alloc (.cells #[.string x, .string y] 95)) wr)) (fun i _ => n - (intOf i).toNat)
  case atStart => exact ⟨0, Nat.zero_le _, rfl, Lib.hid (fun j p hj => by omega), Lib.hid (Below.refl _ _)⟩
  case round =>
    obtain ⟨k, hk, rfl, HNO, HB⟩ := hrel
    by_cases hlt : k < n
    · obtain ⟨p, g, o, hp, rfl, hg, hcl⟩ := (HL.out.below (keeps HB0.out HB.out)).get k hlt
      obtain ⟨c1, c2⟩ := rg_cells hcl
      have d1 : wr.cell? ⟨w.heap.size, 0, none⟩ = some (.string x) := (HX.out.below HB.out).cell 0
      have d2 : wr.cell? ⟨w.heap.size, 1, none⟩ = some (.string y) := (HX.out.below HB.out).cell 1
      have HP := Lib.hid hp
      have heq := eq2 x y p.1 p.2
      clear hp hcl
      by_cases hq : x = p.1 ∧ y = p.2
      · have he : ∀ v, (Op.equalIn 10000 95 (.agg #[.string x, .string y]) (.agg #[.string p.1, .string p.2])).run Tryd.prog v = .ok true v := fun v => by rw [heq v, decide_eq_true hq.1, decide_eq_true hq.2]; rfl
        have HQ := Lib.hid hq
        clear heq hq
        go_wp2
        go_quiet (fail)
        go_wp2_with fail
        go_ret
        exact ⟨_, rfl, by rw [has_yes HP.out HQ.out.1.symm HQ.out.2.symm]; exact decide_eq_true (by omega), below_drewN (keeps HB0.out HB.out) _⟩
      · have he : ∀ v, (Op.equalIn 10000 95 (.agg #[.string x, .string y]) (.agg #[.string p.1, .string p.2])).run Tryd.prog v = .ok false v := fun v => by
          rw [heq v]
          congr 1
          rw [← Bool.not_eq_true, Bool.and_eq_true, decide_eq_true_eq, decide_eq_true_eq]
          exact hq
        have HNO2 : Hid (∀ j q, j < k + 1 → L[j]? = some q → ¬ (q.1 = x ∧ q.2 = y)) := Lib.hid (fun j q hj hjq => by
          rcases Nat.lt_or_ge j k with h1 | h1
          · exact HNO.out j q h1 hjq
          · obtain rfl : j = k := by omega
            have := HP.out
            rw [hjq] at this
            injection this with this
            subst this
            exact fun h => hq ⟨h.1.symm, h.2.symm⟩)
        clear heq hq
        go_wp2
        go_quiet (fail)
        go_wp2_with fail
        go_roundw
        case rel => exact ⟨k + 1, by omega, by go_num, HNO2, Lib.hid (below_drewN HB.out _)⟩
        case measure => simp [intOf]; omega
    · obtain rfl : k = n := by omega
      go_wp2_with fail
      go_ret
      exact ⟨_, rfl, by rw [has_no (fun j p hj hp => HNO.out j p (by rw [← HL.out.1]; exact hj) hp)]; exact decide_eq_false (by omega), keeps HB0.out HB.out⟩
set_option maxRecDepth 100000 in
set_option maxHeartbeats 2000000 in
theorem contains_calls (A : Option Addr) (n c : Nat) (L : List (ByteArray × ByteArray)) (x y : ByteArray) (w : World) (hl : Sl rgE w A n L) (hn : n ≤ 100000) :
    Calls Tryd.prog 52 #[.slice A n c, .agg #[.string x, .string y]] w fun e w' => e = .returned (.bool (hasR x y L)) ∧ Below w.heap.size w w' := by
  have hb0 : Below w.heap.size w (w.alloc (.cells #[.string x, .string y] 95)) := (Below.refl _ _).alloc (Nat.le_refl _) _
  have HI := Lib.hid (index_calls A n c L x y _ (hl.below hb0) hn)
  have HB0 := Lib.hid hb0
  have HX := Lib.hid (Blk.new_ w #[.string x, .string y] 95)
  clear hb0 hl
  go_enter Tryd.func52, Tryd.ntmps52
  go_wp2_with (first
    | ((with_reducible refine pick (some 6) ?_); refine load_blk rfl 95 _ rfl w.heap.size rfl 95 #[.string x, .string y] _ HX.out Tryd.underlying95 rfl (by kernel_rfl) ?_)
    | (go_at_call 68; refine HI.out.mono ?_; rintro e w1 ⟨i, rfl, hi, hb1⟩; have HH := Lib.hid hi; have HB1 := Lib.hid hb1; clear hi hb1))
  go_ret
  exact ⟨congrArg Ending.returned (congrArg Value.bool HH.out), keeps HB0.out HB1.out⟩
/-- The keys' texts in a row of the call's own. -/
def KeysR (L : List Pr) (w : World) (e : Ending) (w' : World) : Prop := ∃ v, e = .returned v ∧ So rdE 9 w' w.heap.size v L.length L ∧ Below w.heap.size w w'
theorem pair_new (w : World) (p : Pr) : (w.alloc (.cells #[.string p.key, .string p.value, .bool p.gone] 79)).cell? ⟨w.heap.size, 0, none⟩ = some (.string p.key) := (Blk.new_ w _ _).cell 0
theorem key_new (w : World) (p : Pr) : Sl rdE ((w.alloc (.cells #[.string p.key, .string p.value, .bool p.gone] 79)).alloc (.cells #[.string p.key] 9)) (some ⟨w.heap.size + 1, 0, none⟩) 1 [p] := by
  have h := Sl.new_ rdE (w.alloc (.cells #[.string p.key, .string p.value, .bool p.gone] 79)) 9 p #[.string p.key] rfl
  have e : (w.alloc (.cells #[.string p.key, .string p.value, .bool p.gone] 79)).heap.size = w.heap.size + 1 := by simp
  rw [e] at h
  exact h
theorem two_new {w : World} {a b : Obj} {B : Nat} (hb : Below B w w) : Below w.heap.size w ((w.alloc a).alloc b) := ((Below.refl _ _).alloc (Nat.le_refl _) _).alloc (by simp) _
set_option maxRecDepth 100000 in
set_option maxHeartbeats 4000000 in
theorem keysof_calls (t : Value) (L : List Pr) (w : World) (ht : TN w t L) (hn : L.length ≤ 2000) :
    Calls Tryd.prog 39 #[t] w (KeysR L w) := by
  have HT := Lib.hid ht
  obtain ⟨n, hln⟩ : ∃ n, L.length = n := ⟨_, rfl⟩
  have hlen := tnlen ht (by omega)
  rw [hln] at hn hlen
  have HLN := Lib.hid hln
  have HLEN := Lib.hid hlen
  clear ht hln hlen
  go_enter Tryd.func39, Tryd.ntmps39
  go_wp2_with (go_at_call 61; refine HLEN.out.mono ?_; rintro e w1 ⟨rfl, rfl⟩)
  go_loopw [3, 9] (fun v i wr => ∃ k : Nat, k ≤ n ∧ i = .int .i64 k ∧ Hid (So rdE 9 wr w.heap.size v k (L.take k)) ∧ Hid (Below w.heap.size w wr)) (fun _ i _ => n - (intOf i).toNat)
  case atStart => exact ⟨0, Nat.zero_le _, rfl, Lib.hid (So.nil_ _ _ _ _), Lib.hid (Below.refl _ _)⟩
  case round =>
    obtain ⟨k, hk, rfl, HO, HB⟩ := hrel
    by_cases hlt : k < n
    · obtain ⟨p, hp⟩ : ∃ p, L[k]? = some p := ⟨_, List.getElem?_eq_getElem (by rw [HLN.out]; exact hlt)⟩
      have HAT := Lib.hid (tnat (HT.out.below HB.out) (by rw [HLN.out]; omega) hp)
      have HP := Lib.hid hp
      have HTK := Lib.hid (TreeM.take_next hp)
      clear hp
      go_wp2_with (first
        | (go_at_call 62; refine HAT.out.mono ?_; rintro e w2 ⟨rfl, hb2⟩; have HB2 := Lib.hid (keeps HB.out hb2); have HO2 := Lib.hid (HO.out.below hb2); have HC := Lib.hid (pair_new w2 p); have c0 := pair_new w2 p; have HB3 := Lib.hid (keeps HB2.out (two_new (a := .cells #[.string p.key, .string p.value, .bool p.gone] 79) (b := .cells #[.string p.key] 9) (Below.refl w2.heap.size w2))); have HO3 := Lib.hid (HO2.out.below (two_new (a := .cells #[.string p.key, .string p.value, .bool p.gone] 79) (b := .cells #[.string p.key] 9) (Below.refl w2.heap.size w2))); clear hb2)
        | ((with_reducible refine pick (some 22) ?_); refine wpList_append_lst rdE 9 rfl _ _ _ rfl Tryd.underlying40 info_rd rfl w.heap.size _ _ _ rfl HO3.out (w2.heap.size + 1) 0 1 1 [p] rfl (key_new w2 p) _ rfl _ HTK.out.symm (by unfold maxLen; omega) (by omega) HB3.out.size ?_; intro v' w4 ho4 hg4 _ _; have HO4 := Lib.hid ho4; have HB4 := Lib.hid (HB3.out.grown hg4 HB3.out.size (fun g hg => (HO3.out.lt hg).1)); clear ho4 hg4))
      go_roundw
      case rel => exact ⟨k + 1, by omega, by go_num, HO4, HB4⟩
      case measure => simp [intOf]; omega
    · obtain rfl : k = n := by omega
      go_wp2_with fail
      go_ret
      refine ⟨_, rfl, ?_, HB.out⟩
      have h := HO.out
      rw [List.take_of_length_le (by rw [HLN.out]; exact Nat.le_refl _)] at h
      rw [HLN.out]
      exact h
end Go.Proofs.YtbdokofdbeccdaaDoor.ViewKr

/- The landed view: how it stands in memory; Get, Look, Set, Cut, Reads, Ranges, Copy. -/
namespace Go.Proofs.YtbdokofdbeccdaaDoor.ViewKs
set_option linter.unusedVariables false
set_option linter.unusedSimpArgs false
open Go.RowKit
open Go.Proofs.YtbdokofdbeccdaaDoor.Byte Go.Proofs.YtbdokofdbeccdaaDoor.KeysM Go.Proofs.YtbdokofdbeccdaaDoor.TreeM Go.Proofs.YtbdokofdbeccdaaDoor.ViewM Go.Proofs.YtbdokofdbeccdaaDoor.ViewKm Go.Proofs.YtbdokofdbeccdaaDoor.ViewKn Go.Proofs.YtbdokofdbeccdaaDoor.ViewKr Go.Proofs.YtbdokofdbeccdaaDoor.Own Go.Proofs.YtbdokofdbeccdaaDoor.Rw Go.Proofs.YtbdokofdbeccdaaDoor.Lst Go.Proofs.YtbdokofdbeccdaaDoor.Chg Go.Proofs.YtbdokofdbeccdaaDoor.TreeR Go.Proofs.YtbdokofdbeccdaaDoor.TreeS Go.Proofs.YtbdokofdbeccdaaDoor.TreeL Go.Proofs.YtbdokofdbeccdaaDoor.TreeG Go.Proofs.YtbdokofdbeccdaaDoor.TreeH Go.Proofs.YtbdokofdbeccdaaDoor.Ho Go.Proofs.YtbdokofdbeccdaaDoor.ViewR Go.Proofs.YtbdokofdbeccdaaDoor.ViewG

theorem So.chg {α : Type} {e : Enc α} {T : TypeId} {w w' : World} {base n : Nat} {v : Value} {L : List α} {S : Nat → Prop} (h : So e T w base v n L) (k : Chg S w w') (hn : ∀ g, v.ownBlock = some g → ¬ S g) : So e T w' base v n L := by
  obtain ⟨h1, h2, h4⟩ := h
  refine ⟨h1, h2, ?_⟩
  rcases h4 with h4 | ⟨g, cap, cur, e1, e2, e3, rest⟩
  · exact .inl h4
  · have hlt : g < w.heap.size := by
      rcases Nat.lt_or_ge g w.heap.size with h | h
      · exact h
      · rw [Array.getElem?_eq_none h] at e3
        cases e3
    exact .inr ⟨g, cap, cur, e1, e2, (k.block g hlt (hn g (by rw [e1]; rfl))).trans e3, rest⟩
/-- A block of another type than the row's is not the row's. -/
theorem So.apart {α : Type} {e : Enc α} {T U : TypeId} {w : World} {base n g : Nat} {v : Value} {L : List α} {cs : Array Value} (h : So e T w base v n L) (hb : Blk w g cs U) (hne : U ≠ T) : ∀ k, v.ownBlock = some k → k ≠ g := fun k hk e => by
  subst e
  rcases h.2.2 with ⟨h1, _⟩ | ⟨g', cap, cur, h1, _, h3, _⟩
  · rw [h1] at hk
    cases hk
  · rw [h1] at hk
    have : g' = k := by injection hk
    subst this
    unfold Blk at hb
    rw [hb] at h3
    injection h3 with h3
    injection h3 with _ h3
    exact hne h3
/-- A view's cells: its base, what it shows, the keys that are written, those that were read; ranges. -/
structure VC (w : World) (g : Nat) (b sh wt rd rg : Value) (B S W R : List Pr) (G : List (ByteArray × ByteArray)) : Prop where
  blk : Blk w g #[b, sh, wt, rd, rg] 57
  base : TN w b B
  shown : TN w sh S
  wr : TN w wt W
  read : TN w rd R
  rgs : So rgE 95 w 0 rg G.length G
section
variable {w w' : World} {g : Nat} {b sh wt rd rg : Value} {B S W R : List Pr} {G : List (ByteArray × ByteArray)}
theorem VC.apart (h : VC w g b sh wt rd rg B S W R G) : ∀ k, rg.ownBlock = some k → k ≠ g := So.apart h.rgs h.blk (by decide)
theorem VC.lt (h : VC w g b sh wt rd rg B S W R G) : g < w.heap.size := h.blk.lt
theorem VC.stay {T : Nat → Prop} (h : VC w g b sh wt rd rg B S W R G) (c : Chg T w w') (k : Kept w w') (h1 : ¬ T g) (h2 : ∀ k, rg.ownBlock = some k → ¬ T k) : VC w' g b sh wt rd rg B S W R G :=
  ⟨ViewD.blk_chg h.blk c h1, h.base.keep k, h.shown.keep k, h.wr.keep k, h.read.keep k, So.chg h.rgs c h2⟩
theorem VC.below (h : VC w g b sh wt rd rg B S W R G) (hb : Below w.heap.size w w') : VC w' g b sh wt rd rg B S W R G :=
  ⟨h.blk.below hb, h.base.below hb, h.shown.below hb, h.wr.below hb, h.read.below hb, h.rgs.below hb⟩
theorem VC.cells (h : VC w g b sh wt rd rg B S W R G) : w.cell? ⟨g, 0, none⟩ = some b ∧ w.cell? ⟨g, 1, none⟩ = some sh ∧ w.cell? ⟨g, 2, none⟩ = some wt ∧ w.cell? ⟨g, 3, none⟩ = some rd ∧ w.cell? ⟨g, 4, none⟩ = some rg ∧ (∀ i, w.frozen? ⟨g, i, none⟩ = false) :=
  ⟨h.blk.cell 0, h.blk.cell 1, h.blk.cell 2, h.blk.cell 3, h.blk.cell 4, h.blk.frozen⟩
theorem kset (h : VC w g b sh wt rd rg B S W R G) (i : Nat) (u : Value) : Kept w (w.setCell ⟨g, i, none⟩ u) := ViewD.kept_set h.blk (by decide) i u
theorem rset (h : VC w g b sh wt rd rg B S W R G) (i : Nat) (u : Value) : So rgE 95 (w.setCell ⟨g, i, none⟩ u) 0 rg G.length G :=
  So.chg h.rgs ((Chg.refl (fun k => k = g) w).own i u) (fun k hk e => h.apart k hk e)
theorem VC.put1 (h : VC w g b sh wt rd rg B S W R G) {u : Value} {S' : List Pr} (hu : TN w u S') : VC (w.setCell ⟨g, 1, none⟩ u) g b u wt rd rg B S' W R G :=
  ⟨h.blk.set_ 1 u, h.base.keep (kset h 1 u), hu.keep (kset h 1 u), h.wr.keep (kset h 1 u), h.read.keep (kset h 1 u), rset h 1 u⟩
theorem VC.put2 (h : VC w g b sh wt rd rg B S W R G) {u : Value} {W' : List Pr} (hu : TN w u W') : VC (w.setCell ⟨g, 2, none⟩ u) g b sh u rd rg B S W' R G :=
  ⟨h.blk.set_ 2 u, h.base.keep (kset h 2 u), h.shown.keep (kset h 2 u), hu.keep (kset h 2 u), h.read.keep (kset h 2 u), rset h 2 u⟩
theorem VC.put3 (h : VC w g b sh wt rd rg B S W R G) {u : Value} {R' : List Pr} (hu : TN w u R') : VC (w.setCell ⟨g, 3, none⟩ u) g b sh wt u rg B S W R' G :=
  ⟨h.blk.set_ 3 u, h.base.keep (kset h 3 u), h.shown.keep (kset h 3 u), h.wr.keep (kset h 3 u), hu.keep (kset h 3 u), rset h 3 u⟩
/-- Which blocks are its own. -/
def own (g : Nat) (rg : Value) : Nat → Prop := fun k => k = g ∨ rg.ownBlock = some k
/-- Behind calls and stores into its own cells. -/
structure Did (g : Nat) (rg : Value) (w w' : World) : Prop where
  chg : Chg (own g rg) w w'
  kept : Kept w w'
theorem Did.refl (g : Nat) (rg : Value) (w : World) : Did g rg w w := ⟨Chg.refl _ _, fun _ _ _ _ _ h => h⟩
theorem Did.below {w1 : World} (d : Did g rg w w1) (hb : Below w1.heap.size w1 w') : Did g rg w w' := ⟨d.chg.trans (Chg.of_below hb), ViewD.Kept.trans d.kept (Kept.of_below hb)⟩
theorem Did.set {w1 : World} (d : Did g rg w w1) (h : VC w1 g b sh wt rd rg B S W R G) (i : Nat) (u : Value) : Did g rg w (w1.setCell ⟨g, i, none⟩ u) :=
  ⟨d.chg.setCell (.inl (.inl rfl)) u, ViewD.Kept.trans d.kept (kset h i u)⟩
end
variable {w : World} {g : Nat} {b sh wt rd rg : Value} {B S W R : List Pr} {G : List (ByteArray × ByteArray)}

/-! ### the methods -/
set_option maxRecDepth 100000 in
set_option maxHeartbeats 1000000 in
theorem look_calls (k : ByteArray) (h : VC w g b sh wt rd rg B S W R G) (hl : S.length ≤ 50000) :
    Calls Tryd.prog 49 #[.pointer (some ⟨g, 0, none⟩), .string k] w fun e w' => e = .returned (GotV (getL k S)) ∧ w = w' := by
  have HG := Lib.hid (tnget k h.shown hl)
  obtain ⟨_, c1, _, _, _, _⟩ := h.cells
  clear h
  cases hG : getL k S with
  | none =>
    rw [hG] at HG
    go_enter Tryd.func49, Tryd.ntmps49
    go_wp2_with (go_at_call 51; refine HG.out.mono ?_; rintro e w1 ⟨rfl, rfl⟩; dsimp only [GotV])
    go_ret2
    exact ⟨rfl, rfl⟩
  | some p =>
    rw [hG] at HG
    go_enter Tryd.func49, Tryd.ntmps49
    go_wp2_with (go_at_call 51; refine HG.out.mono ?_; rintro e w1 ⟨rfl, rfl⟩; dsimp only [GotV])
    go_ret2
    exact ⟨rfl, rfl⟩
set_option maxRecDepth 100000 in
set_option maxHeartbeats 1000000 in
theorem get_calls (k : ByteArray) (h : VC w g b sh wt rd rg B S W R G) (hl : S.length ≤ 50000) (hr : R.length ≤ 50000) :
    Calls Tryd.prog 28 #[.pointer (some ⟨g, 0, none⟩), .string k] w fun e w' => ∃ rd', e = .returned (GotV (getL k S)) ∧ VC w' g b sh wt rd' rg B S W (putL k ⟨#[]⟩ R) G ∧ Did g rg w w' := by
  have HS := Lib.hid (tnset k ⟨#[]⟩ h.read hr)
  obtain ⟨_, c1, _, c3, _, f3⟩ := h.cells
  have HV := Lib.hid h
  clear h f3
  obtain ⟨o, ho⟩ : ∃ o, getL k S = o := ⟨_, rfl⟩
  have HO := Lib.hid ho
  clear ho
  go_enter Tryd.func28, Tryd.ntmps28
  go_wp2_with (go_at_call 45; refine HS.out.mono ?_; rintro e w1 ⟨rd', rfl, hrd, hb1⟩; obtain ⟨A1, rfl⟩ := hrd.form; have HV1 := Lib.hid (HV.out.below hb1); have HV2 := Lib.hid (HV1.out.put3 hrd); have HD := Lib.hid (((Did.refl g rg w).below hb1).set HV1.out 3 (.pointer A1)); obtain ⟨k0, k1, k2, k3, k4, k5⟩ := HV1.out.cells; have f3 := k5 3; clear hrd hb1 k5)
  refine (look_calls k HV2.out hl).mono ?_
  rintro e w2 ⟨rfl, rfl⟩
  rw [HO.out]
  cases o with
  | none =>
    dsimp only [GotV]
    go_wp2_with fail
    go_ret2
    exact ⟨_, by rw [HO.out]; rfl, HV2.out, HD.out⟩
  | some p =>
    dsimp only [GotV]
    go_wp2_with fail
    go_ret2
    exact ⟨_, by rw [HO.out]; rfl, HV2.out, HD.out⟩
/-- Is there room for a write? -/
def roomB (k : ByteArray) (W : List Pr) : Bool := (getL k W).isSome || decide (W.length < 48)
set_option maxRecDepth 100000 in
set_option maxHeartbeats 1000000 in
theorem room_calls (k : ByteArray) (h : VC w g b sh wt rd rg B S W R G) (hl : W.length ≤ 50000) :
    Calls Tryd.prog 44 #[.pointer (some ⟨g, 0, none⟩), .string k] w fun e w' => e = .returned (.bool (roomB k W)) ∧ w = w' := by
  have HG := Lib.hid (tnget k h.wr hl)
  have HL := Lib.hid (tnlen h.wr hl)
  obtain ⟨n, hn⟩ : ∃ n, W.length = n := ⟨_, rfl⟩
  rw [hn] at HL hl
  have HN := Lib.hid hn
  obtain ⟨_, _, c2, _, _, _⟩ := h.cells
  clear h hn
  unfold roomB
  rw [HN.out]
  cases hG : getL k W with
  | none =>
    rw [hG] at HG
    clear hG
    by_cases h48 : n < 48
    · have d : decide (n < 48) = true := decide_eq_true h48
      have d2 : decide ((n : Int) < 48) = true := decide_eq_true (by omega)
      rw [d]
      clear d
      go_enter Tryd.func44, Tryd.ntmps44
      go_wp2_with (first
        | (go_at_call 51; refine HG.out.mono ?_; rintro e w1 ⟨rfl, rfl⟩; dsimp only [GotV])
        | (go_at_call 61; refine HL.out.mono ?_; rintro e w1 ⟨rfl, rfl⟩))
      go_ret
      exact ⟨by simp [d2], rfl⟩
    · have d : decide (n < 48) = false := decide_eq_false h48
      have d2 : decide ((n : Int) < 48) = false := decide_eq_false (by omega)
      rw [d]
      clear d
      go_enter Tryd.func44, Tryd.ntmps44
      go_wp2_with (first
        | (go_at_call 51; refine HG.out.mono ?_; rintro e w1 ⟨rfl, rfl⟩; dsimp only [GotV])
        | (go_at_call 61; refine HL.out.mono ?_; rintro e w1 ⟨rfl, rfl⟩))
      go_ret
      exact ⟨by simp [d2], rfl⟩
  | some p =>
    rw [hG] at HG
    clear hG
    go_enter Tryd.func44, Tryd.ntmps44
    go_wp2_with (first
      | (go_at_call 51; refine HG.out.mono ?_; rintro e w1 ⟨rfl, rfl⟩; dsimp only [GotV])
      | (go_at_call 61; refine HL.out.mono ?_; rintro e w1 ⟨rfl, rfl⟩))
    go_ret
    exact ⟨by simp, rfl⟩
theorem room_is (k : ByteArray) {r : Bool} (hr : roomB k W = r) (h : VC w g b sh wt rd rg B S W R G) (hl : W.length ≤ 50000) :
    Calls Tryd.prog 44 #[.pointer (some ⟨g, 0, none⟩), .string k] w fun e w' => e = .returned (.bool r) ∧ w = w' := by
  subst hr
  exact room_calls k h hl
set_option maxRecDepth 100000 in
set_option maxHeartbeats 1000000 in
theorem set_no (k x : ByteArray) (h : VC w g b sh wt rd rg B S W R G) (hl : W.length ≤ 50000) (hr : roomB k W = false) :
    Calls Tryd.prog 24 #[.pointer (some ⟨g, 0, none⟩), .string k, .string x] w fun e w' => e = .returned (.bool false) ∧ w = w' := by
  have HR := Lib.hid (room_is k hr h hl)
  clear h hr
  go_enter Tryd.func24, Tryd.ntmps24
  go_wp2_with (go_at_call 44; refine HR.out.mono ?_; rintro e w1 ⟨rfl, rfl⟩)
  go_ret
  exact ⟨rfl, rfl⟩
set_option maxRecDepth 100000 in
set_option maxHeartbeats 1000000 in
theorem set_yes (k x : ByteArray) (h : VC w g b sh wt rd rg B S W R G) (hs : S.length ≤ 50000) (hl : W.length ≤ 50000) (hr : roomB k W = true) :
    Calls Tryd.prog 24 #[.pointer (some ⟨g, 0, none⟩), .string k, .string x] w fun e w' => ∃ sh' wt', e = .returned (.bool true) ∧ VC w' g b sh' wt' rd rg B (putL k x S) (putL k ⟨#[]⟩ W) R G ∧ Did g rg w w' := by
  have HR := Lib.hid (room_is k hr h hl)
  have HS := Lib.hid (tnset k x h.shown hs)
  have HV := Lib.hid h
  obtain ⟨_, c1, _, _, _, _⟩ := h.cells
  clear h hr
  go_enter Tryd.func24, Tryd.ntmps24
  go_wp2_with (first
    | (go_at_call 44; refine HR.out.mono ?_; rintro e w1 ⟨rfl, rfl⟩)
    | (go_at_call 45; (with_reducible refine HS.out.mono ?_); rintro e w1 ⟨sh', rfl, hsh, hb1⟩; obtain ⟨A1, rfl⟩ := hsh.form; have HV1 := Lib.hid (HV.out.below hb1); have HV2 := Lib.hid (HV1.out.put1 hsh); have HD := Lib.hid (((Did.refl g rg w).below hb1).set HV1.out 1 (.pointer A1)); obtain ⟨k0, k1, k2, k3, k4, k5⟩ := HV1.out.cells; have f1 := k5 1; clear hsh hb1 k5)
    | (go_at_call 45; refine (tnset k ⟨#[]⟩ HV2.out.wr hl).mono ?_; rintro e w2 ⟨wt', rfl, hwt, hb2⟩; obtain ⟨A2, rfl⟩ := hwt.form; have HV3 := Lib.hid (HV2.out.below hb2); have HV4 := Lib.hid (HV3.out.put2 hwt); have HD2 := Lib.hid ((HD.out.below hb2).set HV3.out 2 (.pointer A2)); obtain ⟨m0, m1, m2, m3, m4, m5⟩ := HV3.out.cells; have f2 := m5 2; clear hwt hb2 m5))
  go_ret
  exact ⟨_, _, rfl, HV4.out, HD2.out⟩
set_option maxRecDepth 100000 in
set_option maxHeartbeats 1000000 in
theorem cut_no (k : ByteArray) (h : VC w g b sh wt rd rg B S W R G) (hl : W.length ≤ 50000) (hr : roomB k W = false) :
    Calls Tryd.prog 30 #[.pointer (some ⟨g, 0, none⟩), .string k] w fun e w' => e = .returned (.bool false) ∧ w = w' := by
  have HR := Lib.hid (room_is k hr h hl)
  clear h hr
  go_enter Tryd.func30, Tryd.ntmps30
  go_wp2_with (go_at_call 44; refine HR.out.mono ?_; rintro e w1 ⟨rfl, rfl⟩)
  go_ret
  exact ⟨rfl, rfl⟩
set_option maxRecDepth 100000 in
set_option maxHeartbeats 1000000 in
theorem cut_yes (k : ByteArray) (p : Pr) (hB : getL k B = some p) (h : VC w g b sh wt rd rg B S W R G) (hb : B.length ≤ 50000) (hs : S.length ≤ 50000) (hl : W.length ≤ 50000) (hr : roomB k W = true) :
    Calls Tryd.prog 30 #[.pointer (some ⟨g, 0, none⟩), .string k] w fun e w' => ∃ sh' wt', e = .returned (.bool true) ∧ VC w' g b sh' wt' rd rg B (cutL k S) (putL k ⟨#[]⟩ W) R G ∧ Did g rg w w' := by
  have HR := Lib.hid (room_is k hr h hl)
  have HS := Lib.hid (tncut k h.shown hs)
  have HV := Lib.hid h
  have HB := Lib.hid hB
  obtain ⟨_, c1, _, _, _, _⟩ := h.cells
  clear h hr hB
  go_enter Tryd.func30, Tryd.ntmps30
  go_wp2_with (first
    | (go_at_call 44; refine HR.out.mono ?_; rintro e w1 ⟨rfl, rfl⟩)
    | (go_at_call 50; (with_reducible refine HS.out.mono ?_); rintro e w1 ⟨sh', rfl, hsh, hb1⟩; obtain ⟨A1, rfl⟩ := hsh.form; have HV1 := Lib.hid (HV.out.below hb1); have HV2 := Lib.hid (HV1.out.put1 hsh); have HD := Lib.hid (((Did.refl g rg w).below hb1).set HV1.out 1 (.pointer A1)); obtain ⟨k0, k1, k2, k3, k4, k5⟩ := HV1.out.cells; have f1 := k5 1; have hgb := tnget k HV2.out.base hb; rw [HB.out] at hgb; have HGB := Lib.hid hgb; clear hsh hb1 k5 hgb)
    | (go_at_call 51; refine HGB.out.mono ?_; rintro e w3 ⟨rfl, rfl⟩; dsimp only [GotV])
    | (go_at_call 45; refine (tnset k ⟨#[]⟩ HV2.out.wr hl).mono ?_; rintro e w2 ⟨wt', rfl, hwt, hb2⟩; obtain ⟨A2, rfl⟩ := hwt.form; have HV3 := Lib.hid (HV2.out.below hb2); have HV4 := Lib.hid (HV3.out.put2 hwt); have HD2 := Lib.hid ((HD.out.below hb2).set HV3.out 2 (.pointer A2)); obtain ⟨m0, m1, m2, m3, m4, m5⟩ := HV3.out.cells; have f2 := m5 2; clear hwt hb2 m5))
  go_ret
  exact ⟨_, _, rfl, HV4.out, HD2.out⟩
set_option maxRecDepth 100000 in
set_option maxHeartbeats 1000000 in
theorem cut_new (k : ByteArray) (hB : getL k B = none) (h : VC w g b sh wt rd rg B S W R G) (hb : B.length ≤ 50000) (hs : S.length ≤ 50000) (hl : W.length ≤ 50000) (hr : roomB k W = true) :
    Calls Tryd.prog 30 #[.pointer (some ⟨g, 0, none⟩), .string k] w fun e w' => ∃ sh' wt', e = .returned (.bool true) ∧ VC w' g b sh' wt' rd rg B (cutL k S) (cutL k W) R G ∧ Did g rg w w' := by
  have HR := Lib.hid (room_is k hr h hl)
  have HS := Lib.hid (tncut k h.shown hs)
  have HV := Lib.hid h
  have HB := Lib.hid hB
  obtain ⟨_, c1, _, _, _, _⟩ := h.cells
  clear h hr hB
  go_enter Tryd.func30, Tryd.ntmps30
  go_wp2_with (first
    | (go_at_call 44; refine HR.out.mono ?_; rintro e w1 ⟨rfl, rfl⟩)
    | (go_at_call 50; (with_reducible refine HS.out.mono ?_); rintro e w1 ⟨sh', rfl, hsh, hb1⟩; obtain ⟨A1, rfl⟩ := hsh.form; have HV1 := Lib.hid (HV.out.below hb1); have HV2 := Lib.hid (HV1.out.put1 hsh); have HD := Lib.hid (((Did.refl g rg w).below hb1).set HV1.out 1 (.pointer A1)); obtain ⟨k0, k1, k2, k3, k4, k5⟩ := HV1.out.cells; have f1 := k5 1; have hgb := tnget k HV2.out.base hb; rw [HB.out] at hgb; have HGB := Lib.hid hgb; clear hsh hb1 k5 hgb)
    | (go_at_call 51; refine HGB.out.mono ?_; rintro e w3 ⟨rfl, rfl⟩; dsimp only [GotV])
    | (go_at_call 50; (with_reducible refine (tncut k HV2.out.wr hl).mono ?_); rintro e w2 ⟨wt', rfl, hwt, hb2⟩; obtain ⟨A2, rfl⟩ := hwt.form; have HV3 := Lib.hid (HV2.out.below hb2); have HV4 := Lib.hid (HV3.out.put2 hwt); have HD2 := Lib.hid ((HD.out.below hb2).set HV3.out 2 (.pointer A2)); obtain ⟨m0, m1, m2, m3, m4, m5⟩ := HV3.out.cells; have f2 := m5 2; clear hwt hb2 m5))
  go_ret
  exact ⟨_, _, rfl, HV4.out, HD2.out⟩
set_option maxRecDepth 100000 in
set_option maxHeartbeats 1000000 in
theorem reads_calls (h : VC w g b sh wt rd rg B S W R G) (hr : R.length ≤ 2000) :
    Calls Tryd.prog 18 #[.pointer (some ⟨g, 0, none⟩)] w (KeysR R w) := by
  have HK := Lib.hid (keysof_calls rd R w h.read hr)
  obtain ⟨_, _, _, c3, _, _⟩ := h.cells
  clear h
  go_enter Tryd.func18, Tryd.ntmps18
  go_wp2_with (go_at_call 39; refine HK.out.mono ?_; rintro e w1 ⟨v, rfl, ho, hb⟩; have HO := Lib.hid ho; have HB := Lib.hid hb; clear ho hb)
  go_ret
  exact ⟨_, rfl, HO.out, HB.out⟩
end Go.Proofs.YtbdokofdbeccdaaDoor.ViewKs
