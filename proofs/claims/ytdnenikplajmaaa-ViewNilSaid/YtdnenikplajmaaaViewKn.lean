/- The project's tree where it may be nil: what layers above use. -/
import Derived.Test.YtdnenikplajmaaaTreeH
namespace Go.Proofs.Ytdnenikplajmaaa.ViewKn
set_option linter.unusedVariables false
set_option linter.unusedSimpArgs false
open Go.RowKit
open Go.Proofs.Ytdnenikplajmaaa.Byte Go.Proofs.Ytdnenikplajmaaa.KeysM Go.Proofs.Ytdnenikplajmaaa.TreeM Go.Proofs.Ytdnenikplajmaaa.TreeB Go.Proofs.Ytdnenikplajmaaa.TreeD Go.Proofs.Ytdnenikplajmaaa.TreeE Go.Proofs.Ytdnenikplajmaaa.TreeF Go.Proofs.Ytdnenikplajmaaa.TreeJ Go.Proofs.Ytdnenikplajmaaa.TreeQ Go.Proofs.Ytdnenikplajmaaa.TreeG Go.Proofs.Ytdnenikplajmaaa.TreeH Go.Proofs.Ytdnenikplajmaaa.Own Go.Proofs.Ytdnenikplajmaaa.Rw Go.Proofs.Ytdnenikplajmaaa.Lst Go.Proofs.Ytdnenikplajmaaa.TreeR Go.Proofs.Ytdnenikplajmaaa.TreeS Go.Proofs.Ytdnenikplajmaaa.TreeL Go.Proofs.Ytdnenikplajmaaa.Chg
variable {w w' : World} {v : Value} {L : List Pr}

set_option maxRecDepth 100000 in
theorem top_nil (w : World) : Calls Try.prog 33 #[.pointer none] w fun e w' => e = .returned (.pointer none) ∧ w = w' := by
  go_enter Try.func33, Try.ntmps33
  go_wp2_with fail
  go_ret
  exact ⟨rfl, rfl⟩
set_option maxRecDepth 100000 in
theorem get_nil (k : ByteArray) (w : World) : Calls Try.prog 18 #[.pointer none, .string k] w fun e w' => e = .returned (GotV none) ∧ w = w' := by
  go_enter Try.func18, Try.ntmps18
  go_wp2_with (go_at_call 33; refine (top_nil _).mono ?_; rintro e w1 ⟨rfl, rfl⟩)
  go_loopg [6] 0 (fun m n wr => n = .pointer none ∧ wr = w)
  case atStart => exact ⟨rfl, rfl⟩
  case round =>
    obtain ⟨rfl, rfl⟩ := hrel
    go_wp2_with fail
    go_ret2
    exact ⟨rfl, rfl⟩
set_option maxRecDepth 100000 in
set_option maxHeartbeats 1000000 in
theorem set_nil (k x : ByteArray) (w : World) : Calls Try.prog 27 #[.pointer none, .string k, .string x] w (VnR (Tt.no.set ⟨k, x, false⟩) w) := by
  have HN : Hid (Nd w Tt.no none) := Lib.hid rfl
  have HS : Hid (Tt.no.sz ≤ 60000) := Lib.hid (Nat.zero_le _)
  go_enter Try.func27, Try.ntmps27
  go_wp2_with (first
    | (go_at_call 33; refine (top_nil _).mono ?_; rintro e w1 ⟨rfl, rfl⟩)
    | (go_at_call 41; refine (set_calls ⟨k, x, false⟩ Tt.no none _ HS.out HN.out).mono ?_; rintro e w2 ⟨A2, rfl, hn2, hb2⟩; have HN2 := Lib.hid hn2; have HB2 := Lib.hid hb2; clear hn2 hb2))
  go_ret
  exact ⟨_, _, rfl, vn_new HN2.out, HB2.out.alloc HB2.out.size _⟩
set_option maxRecDepth 100000 in
theorem cut_nil (k : ByteArray) (w : World) : Calls Try.prog 38 #[.pointer none, .string k] w fun e w' => e = .returned (.pointer none) ∧ w = w' := by
  go_enter Try.func38, Try.ntmps38
  go_wp2_with (go_at_call 18; refine (get_nil _ _).mono ?_; rintro e w1 ⟨rfl, rfl⟩; dsimp only [GotV])
  go_ret
  exact ⟨rfl, rfl⟩
set_option maxRecDepth 100000 in
theorem len_nil (w : World) : Calls Try.prog 15 #[.pointer none] w fun e w' => e = .returned (.int .i64 (0 : Nat)) ∧ w = w' := by
  have HN : Hid (Nd w Tt.no none) := Lib.hid rfl
  go_enter Try.func15, Try.ntmps15
  go_wp2_with (first
    | (go_at_call 33; refine (top_nil _).mono ?_; rintro e w1 ⟨rfl, rfl⟩)
    | (go_at_call 34; refine (size_calls Tt.no none _ HN.out 0 rfl).mono ?_; rintro e w1 ⟨rfl, rfl⟩))
  go_ret
  exact ⟨rfl, rfl⟩
set_option maxRecDepth 100000 in
set_option maxHeartbeats 1000000 in
theorem range_nil (x y : ByteArray) (w : World) : Calls Try.prog 40 #[.pointer none, .string x, .string y] w (Made [] w) := by
  have HN : Hid (Nd w Tt.no none) := Lib.hid rfl
  have HR : Hid (Rise Tt.no.ino) := Lib.hid List.Pairwise.nil
  have G := Lib.hid (gather_calls x y Tt.no none w w.heap.size (.slice none 0 0) [] HR.out HN.out (So.nil_ _ _ _ _) (Nat.le_refl _) (by decide))
  go_enter Try.func40, Try.ntmps40
  go_wp2_with (first
    | (go_at_call 33; refine (top_nil _).mono ?_; rintro e w1 ⟨rfl, rfl⟩)
    | (go_at_call 49; refine G.out.mono ?_; rintro e w2 ⟨v, rfl, ho, hb2, _, _⟩; have HO := Lib.hid ho; have HB2 := Lib.hid hb2; clear ho hb2))
  go_ret
  exact ⟨_, rfl, HO.out, HB2.out⟩
/-- A tree with these pairs, or nil. -/
def TN (w : World) (v : Value) (L : List Pr) : Prop := (v = .pointer none ∧ L = []) ∨ ∃ h, TRep w v L h
theorem TN.of {h : Nat} (r : TRep w v L h) : TN w v L := .inr ⟨h, r⟩
theorem TN.keep (h : TN w v L) (hk : Kept w w') : TN w' v L := by
  rcases h with h | ⟨n, h⟩
  · exact .inl h
  · exact .inr ⟨n, tkeep h hk⟩
theorem TN.below (h : TN w v L) (hb : Below w.heap.size w w') : TN w' v L := h.keep (Kept.of_below hb)
theorem TN.rise (h : TN w v L) : Rise L := by
  rcases h with ⟨_, rfl⟩ | ⟨n, h⟩
  · exact List.Pairwise.nil
  · exact trise h
theorem TN.form (h : TN w v L) : ∃ A, v = .pointer A := by
  rcases h with ⟨rfl, _⟩ | ⟨n, h⟩
  · exact ⟨_, rfl⟩
  · obtain ⟨b, rfl, _⟩ := tform h
    exact ⟨_, rfl⟩
theorem tnset (k x : ByteArray) (h : TN w v L) (hl : L.length ≤ 50000) : Calls Try.prog 27 #[v, .string k, .string x] w fun e w' => ∃ v', e = .returned v' ∧ TN w' v' (putL k x L) ∧ Below w.heap.size w w' := by
  rcases h with ⟨rfl, rfl⟩ | ⟨n, h⟩
  · refine (set_nil k x w).mono ?_
    rintro e w' ⟨b', A', rfl, hv', hb'⟩
    exact ⟨_, rfl, .of (h := (Tt.no.set ⟨k, x, false⟩).ht) ⟨b', A', _, rfl, hv', Tt.ino_set .no k x List.Pairwise.nil, rise_put List.Pairwise.nil k x, (Tt.set_avl .no _ trivial).1, rfl⟩, hb'⟩
  · refine (tset k x h hl).mono ?_
    rintro e w' ⟨v', h', rfl, hr, hb⟩
    exact ⟨v', rfl, .of hr, hb⟩
theorem tncut (k : ByteArray) (h : TN w v L) (hl : L.length ≤ 50000) : Calls Try.prog 38 #[v, .string k] w fun e w' => ∃ v', e = .returned v' ∧ TN w' v' (cutL k L) ∧ Below w.heap.size w w' := by
  rcases h with ⟨rfl, rfl⟩ | ⟨n, h⟩
  · refine (cut_nil k w).mono ?_
    rintro e w' ⟨rfl, rfl⟩
    exact ⟨_, rfl, .inl ⟨rfl, rfl⟩, Below.refl _ _⟩
  · refine (tcut k h hl).mono ?_
    rintro e w' ⟨v', h', rfl, hr, hb⟩
    exact ⟨v', rfl, .of hr, hb⟩
theorem tnget (k : ByteArray) (h : TN w v L) (hl : L.length ≤ 50000) : Calls Try.prog 18 #[v, .string k] w fun e w' => e = .returned (GotV (getL k L)) ∧ w = w' := by
  rcases h with ⟨rfl, rfl⟩ | ⟨n, h⟩
  · exact get_nil k w
  · exact tget k h hl
theorem tnlen (h : TN w v L) (hl : L.length ≤ 50000) : Calls Try.prog 15 #[v] w fun e w' => e = .returned (.int .i64 (L.length : Nat)) ∧ w = w' := by
  rcases h with ⟨rfl, rfl⟩ | ⟨n, h⟩
  · exact len_nil w
  · exact tlen h hl
theorem tnrange (x y : ByteArray) (h : TN w v L) (hl : L.length ≤ 50000) : Calls Try.prog 40 #[v, .string x, .string y] w (Made (rangeL x y L) w) := by
  rcases h with ⟨rfl, rfl⟩ | ⟨n, h⟩
  · exact range_nil x y w
  · exact trange x y h hl
theorem tnat {X : Pr} {j : Nat} (h : TN w v L) (hl : L.length ≤ 50000) (hX : L[j]? = some X) : Calls Try.prog 46 #[v, .int .i64 (j : Nat)] w fun e w' => e = .returned (.tuple #[.agg #[.string X.key, .string X.value, .bool X.gone], .bool true]) ∧ Below w.heap.size w w' := by
  have hj := (List.getElem?_eq_some_iff.1 hX).1
  rcases h with ⟨rfl, rfl⟩ | ⟨n, ⟨b, A, t, rfl, hv, rfl, h2, h3, rfl⟩⟩
  · cases hX
  · rw [Tt.sz_ino] at hl hj
    exact at_yes b A t j w hv (by omega) hj X hX
end Go.Proofs.Ytdnenikplajmaaa.ViewKn
