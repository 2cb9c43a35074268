/- What an operation does to a device's bytes: those of another sector, ahead of its place or behind its end stay; in it bits only fall, unless the sector was erased. -/
import Derived.Test.YtdcmpkohengnaaaNorDt
namespace Go.Proofs.Ytdcmpkohengnaaa.NorFm
set_option linter.unusedVariables false
open Go.RowKit
open Go.Proofs.Ytdcmpkohengnaaa.Byte Go.Proofs.Ytdcmpkohengnaaa.NorM Go.Proofs.Ytdcmpkohengnaaa.NorS Go.Proofs.Ytdcmpkohengnaaa.NorDo Go.Proofs.Ytdcmpkohengnaaa.NorDt

/-- How often a sector was erased, as Wear tells it. -/
def wearAt (s : St) (n : Nat) (se : Int) : Int := if 0 ≤ se ∧ se < (n : Int) then s.wear.getD se.toNat 0 else 0
/-- A byte behind an operation, next to the one ahead of it. -/
def Falls (kd : Int) (i : Nat) (pl : Nat × Nat) (p m : Nat) (x y : Int) : Prop :=
  y = x ∨ (kd = 0 ∧ i = pl.1 ∧ pl.2 ≤ p ∧ p < pl.2 + m ∧ y.toNat &&& (255 - x.toNat) = 0)
section
variable {n z K : Nat} {s : St}
theorem act_rows (s : St) (i : Nat) (down : Bool) (off : Nat) (b : List Int) (hi : i < s.data.length) (j : Nat) : ∃ c, (s.act i down off b).2.row j = if j = i then seg down c off b (s.row i) else s.row j := by
  unfold St.act
  cases hc : s.cut with
  | none => exact ⟨none, row_set s i j _ hi⟩
  | some q =>
    obtain ⟨l, wh, m⟩ := q
    dsimp only
    split
    · exact ⟨some (wh, m), row_set s i j _ hi⟩
    · exact ⟨none, row_set s i j _ hi⟩
theorem act_wear (s : St) (i : Nat) (down : Bool) (off : Nat) (b : List Int) : (s.act i down off b).2.wear = s.wear := by
  unfold St.act
  cases hc : s.cut with
  | none => rfl
  | some q =>
    obtain ⟨l, wh, m⟩ := q
    dsimp only
    split <;> rfl
theorem seg_at (down : Bool) (c : Option (Int × Int)) (off : Nat) (b xs : List Int) (p : Nat) (hp : p < xs.length) : (seg down c off b xs).getD p 0 = if off ≤ p ∧ p < off + b.length then bt (xs.getD p 0) (b.getD (p - off) 0) (mk c (p - off)) down else xs.getD p 0 := by
  unfold seg
  rw [getD_mapIdx _ _ _ hp]
theorem falls_bt (x o m : Int) (h0 : 0 ≤ x) (h1 : x ≤ 255) : (bt x o m true).toNat &&& (255 - x.toNat) = 0 := by
  unfold bt
  rw [Int.toNat_natCast]
  exact bt_falls _ _ _ (by omega)
theorem program_falls (hf : Fits n z K s) (i0 off : Nat) (bs : List Int) (i p : Nat) (hi : i < n) (hp : p < z) : Falls 0 i (i0, off) p bs.length ((s.row i).getD p 0) ((s.program n z i0 off bs).2.row i |>.getD p 0) := by
  unfold St.program
  by_cases h1 : s.on = false
  · rw [if_pos h1]
    exact .inl rfl
  rw [if_neg h1]
  by_cases h2 : bs.length = 0 ∨ inside n z i0 off bs.length = false
  · rw [if_pos h2]
    exact .inl rfl
  rw [if_neg h2]
  by_cases h3 : s.bad.getD i0 false = true
  · rw [if_pos h3]
    exact .inl rfl
  rw [if_neg h3]
  have hin : inside n z i0 off bs.length = true := by
    cases h : inside n z i0 off bs.length with
    | true => rfl
    | false => exact absurd (.inr h) h2
  unfold inside at hin
  rw [decide_eq_true_eq] at hin
  obtain ⟨c, hc⟩ := act_rows s i0 true off bs (by rw [hf.dl]; omega) i
  rw [hc]
  by_cases e : i = i0
  · subst e
    rw [if_pos rfl, seg_at _ _ _ _ _ _ (by rw [(hf.row i hi).1]; exact hp)]
    by_cases hq : off ≤ p ∧ p < off + bs.length
    · rw [if_pos hq]
      have hb : 0 ≤ (s.row i).getD p 0 ∧ (s.row i).getD p 0 ≤ 255 := by
        have hl := (hf.row i hi).1
        rw [List.getD_eq_getElem?_getD, List.getElem?_eq_getElem (by omega), Option.getD_some]
        exact (hf.row i hi).2 _ (List.getElem_mem _)
      exact .inr ⟨rfl, rfl, hq.1, hq.2, falls_bt _ _ _ hb.1 hb.2⟩
    · rw [if_neg hq]
      exact .inl rfl
  · rw [if_neg e]
    exact .inl rfl
theorem erase_falls (hf : Fits n z K s) (se : Int) (i p : Nat) (hi : i < n) (h : ¬ ((i : Int) = se ∧ wearAt s n se < wearAt (s.erase n z se).2 n se)) : ((s.erase n z se).2.row i).getD p 0 = (s.row i).getD p 0 := by
  unfold St.erase at h ⊢
  by_cases h1 : s.on = false
  · rw [if_pos h1]
  rw [if_neg h1] at h ⊢
  by_cases h2 : se < 0 ∨ (n : Int) ≤ se
  · rw [if_pos h2]
  rw [if_neg h2] at h ⊢
  by_cases h3 : s.bad.getD se.toNat false = true
  · rw [if_pos h3]
  rw [if_neg h3] at h ⊢
  obtain ⟨k, rfl⟩ := Int.eq_ofNat_of_zero_le (show 0 ≤ se by omega)
  rw [Int.toNat_natCast] at h ⊢
  obtain ⟨c, hc⟩ := act_rows (s.worn k) k false 0 (List.replicate z 0) (by show k < s.data.length; rw [hf.dl]; omega) i
  rw [hc]
  by_cases e : i = k
  · subst e
    refine absurd ⟨rfl, ?_⟩ h
    unfold wearAt
    rw [if_pos (by omega), if_pos (by omega), act_wear, Int.toNat_natCast]
    unfold St.worn
    dsimp only
    rw [getD_set _ _ _ _ (by rw [hf.wl]; omega), if_pos rfl]
    omega
  · rw [if_neg e]
    rfl
theorem step_falls (hf : Fits n z K s) (kd se off nn kk mm : Int) (bs : List Int) (i p : Nat) (hi : i < n) (hp : p < z)
    (h : ¬ ((i : Int) = se ∧ wearAt s n se < wearAt (St.step s n z kd se off nn kk mm bs) n se)) :
    Falls kd i (pl se off) p bs.length ((s.row i).getD p 0) (((St.step s n z kd se off nn kk mm bs).row i).getD p 0) := by
  unfold St.step at h ⊢
  by_cases h0 : kd = 0
  · rw [if_pos h0, h0]
    exact program_falls hf _ _ bs i p hi hp
  rw [if_neg h0] at h ⊢
  by_cases h1 : kd = 1
  · rw [if_pos h1] at h ⊢
    exact .inl (erase_falls hf se i p hi h)
  rw [if_neg h1] at h ⊢
  refine .inl ?_
  by_cases h2 : kd = 2
  · rw [if_pos h2]
  rw [if_neg h2]
  by_cases h3 : kd = 3
  · rw [if_pos h3]
    rfl
  rw [if_neg h3]
  by_cases h4 : kd = 4
  · rw [if_pos h4]
    unfold St.turn
    split <;> rfl
  rw [if_neg h4]
  by_cases h5 : kd = 5
  · rw [if_pos h5]
    rfl
  rw [if_neg h5]
  unfold St.spoil
  split <;> rfl
end
end Go.Proofs.Ytdcmpkohengnaaa.NorFm
