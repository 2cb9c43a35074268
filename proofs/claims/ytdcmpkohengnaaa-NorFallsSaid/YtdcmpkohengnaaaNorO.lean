/- The contract of 'New': a device whose sectors are all 255. -/
import Derived.Test.YtdcmpkohengnaaaNorN
import Derived.Deep.AppendLies
namespace Go.Proofs.Ytdcmpkohengnaaa.NorO
set_option linter.unusedVariables false
set_option linter.unusedSimpArgs false
open Go.RowKit Go.Maps
open Go.Proofs.Ytdcmpkohengnaaa.Byte Go.Proofs.Ytdcmpkohengnaaa.NorD Go.Proofs.Ytdcmpkohengnaaa.NorW Go.Proofs.Ytdcmpkohengnaaa.NorM Go.Proofs.Ytdcmpkohengnaaa.NorS Go.Proofs.Ytdcmpkohengnaaa.NorF Go.Proofs.Ytdcmpkohengnaaa.NorN

def may (n z : Int) : Bool := decide (6 ≤ n ∧ n ≤ 64 ∧ 512 ≤ z ∧ z ≤ 4096)
theorem may_ways {n z : Int} (h : may n z = false) : n < 6 ∨ (6 ≤ n ∧ 64 < n) ∨ (6 ≤ n ∧ n ≤ 64 ∧ z < 512) ∨ (6 ≤ n ∧ n ≤ 64 ∧ 512 ≤ z ∧ 4096 < z) := by
  unfold may at h
  rw [decide_eq_false_iff_not] at h
  omega
theorem may_yes {n z : Int} (h : may n z = true) : 6 ≤ n ∧ n ≤ 64 ∧ 512 ≤ z ∧ z ≤ 4096 := by
  unfold may at h
  rwa [decide_eq_true_eq] at h

set_option maxHeartbeats 400000 in
theorem may_calls (n z : Int) (w : World) : Calls Try.prog 29 #[.agg #[.int .i64 n, .int .i64 z]] w fun e w' => e = .returned (.bool (may n z)) ∧ w.alloc (.cells #[.int .i64 n, .int .i64 z] 23) = w' := by
  cases h : may n z
  · rcases may_ways h with h1 | ⟨h1, h2⟩ | ⟨h1, h2, h3⟩ | ⟨h1, h2, h3, h4⟩
    all_goals
      clear h
      go_enter Try.func29, Try.ntmps29
      go_wp2
      go_ret
      first | exact ⟨rfl, rfl⟩ | exact ⟨Byte.ret_bool (by rw [decide_eq_false_iff_not]; omega), rfl⟩
  · obtain ⟨h1, h2, h3, h4⟩ := may_yes h
    clear h
    go_enter Try.func29, Try.ntmps29
    go_wp2
    go_ret
    first | exact ⟨rfl, rfl⟩ | exact ⟨Byte.ret_bool (by rw [decide_eq_true_eq]; omega), rfl⟩

/-- What a sector's struct holds. -/
def pair (z : Nat) (p : Nat × Nat) : List Value := [.slice (some ⟨p.1, 0, none⟩) z z, .int .i64 0]
/-- Some sectors are there. -/
structure Some_ (w : World) (lo z : Nat) (gs : List (Nat × Nat)) (sv : Value) : Prop where
  own : w.ownsRow lo 68 2 sv gs.length (gs.flatMap (pair z))
  rows : ∀ p ∈ gs, Ob w lo 5 p.1 z p.2 (List.replicate z 255)
  apart : (gs.map (·.1)).Nodup
theorem flat_len (z : Nat) : ∀ gs : List (Nat × Nat), (gs.flatMap (pair z)).length = gs.length * 2
  | [] => rfl
  | p :: r => by rw [List.flatMap_cons, List.length_append, flat_len z r, List.length_cons]; show 2 + _ = _; omega
theorem flat_at (z : Nat) : ∀ (gs : List (Nat × Nat)) (i : Nat), i < gs.length → (gs.flatMap (pair z))[i * 2]? = some (.slice (some ⟨(gs.getD i (0, 0)).1, 0, none⟩) z z) ∧ (gs.flatMap (pair z))[i * 2 + 1]? = some (.int .i64 0)
  | [], i, h => by simp at h
  | p :: r, 0, _ => ⟨rfl, rfl⟩
  | p :: r, i + 1, h => by
    have ih := flat_at z r i (by simpa using h)
    rw [List.flatMap_cons]
    have e1 : (i + 1) * 2 = i * 2 + 2 := by omega
    have hl : (pair z p).length = 2 := rfl
    rw [e1, List.getElem?_append_right (by rw [hl]; omega), List.getElem?_append_right (by rw [hl]; omega), hl]
    exact ih
theorem Some_.of_chg {S : Nat → Prop} {w w' : World} {lo z : Nat} {gs : List (Nat × Nat)} {sv : Value} (h : Some_ w lo z gs sv) (hg : Chg S w w') (hS : ∀ k, S k → sv.ownBlock ≠ some k ∧ ∀ p ∈ gs, p.1 ≠ k) : Some_ w' lo z gs sv := by
  refine ⟨⟨h.own.1, ?_⟩, fun p hp => (h.rows p hp).chg hg (fun e => (hS _ e).2 p hp rfl), h.apart⟩
  rcases h.own.2 with h' | ⟨g', cap', cur, h1, h2, h3, r⟩
  · exact .inl h'
  · refine .inr ⟨g', cap', cur, h1, h2, ?_, r⟩
    exact (hg.block g' (Array.getElem?_eq_some_iff.1 h3).1 (fun e => (hS _ e).1 (by rw [h1]; rfl))).trans h3
theorem info_sec : (Try.prog.info? 68).map (fun i => (i.zero, i.size, i.bytes)) = some (some (.agg #[.slice none 0 0, .int .i64 0]), 2, 32) := by kernel_rfl
end Go.Proofs.Ytdcmpkohengnaaa.NorO
