/- The contracts of layer 6's small functions (the project's): stateOf, Flag, Size, sumOf, programmed; bytes.Clone. -/
import Derived.Test.YthbafcihmcjchaaGreatDoorPackG
import Derived.Test.YthbafcihmcjchaaGreatDoorSumV
import Derived.Test.YthbafcihmcjchaaGreatDoorRecM
import Derived.ScopeJumps
import Derived.WalkMore
namespace Go.Proofs.YthbafcihmcjchaaGreatDoor.RecW
set_option linter.unusedVariables false
set_option linter.unusedSimpArgs false
open Go.RowKit
open Go.Proofs.YthbafcihmcjchaaGreatDoor.Byte Go.Proofs.YthbafcihmcjchaaGreatDoor.PackM Go.Proofs.YthbafcihmcjchaaGreatDoor.PackV Go.Proofs.YthbafcihmcjchaaGreatDoor.SumV Go.Proofs.YthbafcihmcjchaaGreatDoor.RecM

theorem keeps {w v v' : World} (h : Below w.heap.size w v) (hb : Below v.heap.size v v') : Below w.heap.size w v' := h.trans (hb.mono h.size)
theorem lower {w : World} {base base' : Nat} {e : TypeId} {g n cap : Nat} {xs : List Int} (h : Ob w base e g n cap xs) (hb : base' ≤ base) : Ob w base' e g n cap xs := by
  obtain ⟨h1, h2, h3, h4⟩ := h
  refine ⟨h1, h2, h3, ?_⟩
  rcases h4 with h4 | ⟨g', cap', cur, e1, e2, rest⟩
  · exact .inl h4
  · exact .inr ⟨g', cap', cur, e1, Nat.le_trans hb e2, rest⟩
set_option maxHeartbeats 400000 in
theorem state_calls (f : Int) (w : World) :
    Calls Tryz.prog 83 #[.int .u8 f] w fun e w' => e = .returned (.int .i64 (stOf f)) ∧ w = w' := by
  obtain ⟨s, hs⟩ : ∃ s, stOf f = s := ⟨_, rfl⟩
  have HS := Lib.hid hs
  rw [hs]
  clear hs
  go_enter Tryz.func83, Tryz.ntmps83
  go_wp2
  all_goals (go_ret; exact ⟨ret_int (by rw [← HS.out]; unfold stOf; (repeat' split) <;> simp_all), rfl⟩)
set_option maxHeartbeats 400000 in
theorem sumof_calls (A B : Option Addr) (n m c d : Nat) (xs ys : List Int) (w : World) (hx : Bs w A n xs) (hy : Bs w B m ys) (hn : n ≤ maxLen) (hm : m ≤ maxLen) :
    Calls Tryz.prog 96 #[.slice A n c, .slice B m d] w fun e w' => e = .returned (.int .u32 (SumM.sum (xs ++ ys))) ∧ w = w' := by
  have hb := SumM.sum_bd xs
  have H1 := Lib.hid (sum_calls A n c xs w hx hn)
  have H2 := Lib.hid (more_calls (SumM.sum xs) B m d ys w hb.1 hb.2 hy hm)
  have HE := Lib.hid (SumM.more_sum xs ys)
  clear hb hx hy
  go_enter Tryz.func96, Tryz.ntmps96
  go_wp2_with (first
    | (go_at_call 81; refine (H1.out).mono ?_; rintro e w' ⟨rfl, rfl⟩)
    | (go_at_call 94; refine (H2.out).mono ?_; rintro e w' ⟨rfl, rfl⟩))
  go_ret
  rw [HE.out]
  exact ⟨rfl, rfl⟩
set_option maxHeartbeats 400000 in
theorem clone_calls (b o n c : Nat) (xs : List Int) (w : World) (hb : Bs w (some ⟨b, o, none⟩) n xs) (hn : n ≤ 140737488355328) :
    Calls Tryz.prog 60 #[.slice (some ⟨b, o, none⟩) n c] w (Made xs w) := by
  have HB := Lib.hid hb
  clear hb
  have hq := fun w : World => Lib.run_eql_slice_nil (P := Tryz.prog) w 38 5 (some ⟨b, o, none⟩) n c 0 0 Tryz.underlying38
  go_enter Tryz.func60, Tryz.ntmps60
  go_wp2_with (at_builtin; refine wpList_append_bytes rfl (.tmp 5) (.tmp 6) _ rfl w.heap.size 5 Tryz.underlying38 info8 w.heap.size 0 0 [] rfl (Ob.new_ _ _ (Nat.le_refl _)) _ n c xs rfl (HB.out.below ((Below.refl _ _).alloc (Nat.le_refl _) _)) (fun e => by cases e) n (by omega) xs rfl (by omega) (by simp) ?_; intro g1 cap1 w1 hown1 hg1 _; have hbel1 : Below w.heap.size w w1 := ((Below.refl _ _).alloc (Nat.le_refl _) _).grown hg1 (by simp) (by intro k hk; injection hk with hk; omega); clear hg1)
  go_ret
  exact Made.of HB.out.len rfl hown1 hbel1

/-- The place of the next byte that isn't 255. -/
def Prog (xs : List Int) (a n : Nat) (p : Nat) : Prop := a ≤ p ∧ p ≤ n ∧ (∀ k, a ≤ k → k < p → xs.getD k 0 = 255) ∧ (p < n → xs.getD p 0 ≠ 255)
set_option maxRecDepth 100000 in
set_option maxHeartbeats 1000000 in
theorem prog_calls (A : Option Addr) (n c : Nat) (xs : List Int) (a : Nat) (w : World) (hb : Bs w A n xs) (hn : n ≤ maxLen) (ha : a ≤ n) :
    Calls Tryz.prog 82 #[.slice A n c, .int .i64 a] w fun e w' => ∃ p : Nat, e = .returned (.int .i64 p) ∧ Hid (Prog xs a n p) ∧ w = w' := by
  unfold maxLen at hn
  have HB := Lib.hid hb
  clear hb
  go_enter Tryz.func82, Tryz.ntmps82
  go_wp2
  refine wp_scope_jumps 0 (fun a' w' => w' = w ∧ ∃ (k : Nat) (u5 u6 u7 u8 u9 u10 u11 u12 u13 u14 u15 u16 u17 u18 : Value), a' = { tmps := #[.slice A n c, .int .i64 (k : Int), undef, undef, .int .i64 0, u5, u6, u7, u8, u9, u10, u11, u12, u13, u14, u15, u16, u17, u18], defers := [] } ∧ k ≤ n ∧ Hid (a ≤ k ∧ ∀ j, a ≤ j → j < k → xs.getD j 0 = 255)) (fun a' _ => n - (intOf (a'.tmps.getD 1 undef)).toNat) rfl ?_ ?_
  · by_cases hlt : a < n
    · obtain ⟨b, o, rfl, _, hc⟩ := HB.out.2.2 a hlt
      by_cases hx : xs.getD a 0 = 255
      · rw [hx] at hc
        have HX := Lib.hid hx
        clear hx
        go_wp2
        go_step3
        go_wp2
        go_step3
        exact ⟨rfl, rfl, a + 1, _, _, _, _, _, _, _, _, _, _, _, _, _, _, by go_num, by omega, Lib.hid ⟨by omega, fun j h1 h2 => by rw [show j = a by omega]; exact HX.out⟩⟩
      · have hne : (xs.getD a 0 == 255) = false := by rw [beq_eq_false_iff_ne]; exact hx
        have HX := Lib.hid hx
        generalize xs.getD a 0 = y at hc hne
        clear hx
        go_wp2
        go_step3
        go_wp2
        simp only [Exit.jump]
        go_ret
        exact ⟨a, rfl, Lib.hid ⟨Nat.le_refl _, by omega, fun k h1 h2 => by omega, fun _ => HX.out⟩, rfl⟩
    · go_wp2
      go_step3
      go_wp2
      simp only [Exit.jump]
      go_ret
      exact ⟨a, rfl, Lib.hid ⟨Nat.le_refl _, ha, fun k h1 h2 => by omega, fun h => by omega⟩, rfl⟩
  · rintro a' w' ⟨rfl, k, u5, u6, u7, u8, u9, u10, u11, u12, u13, u14, u15, u16, u17, u18, rfl, hk, HK⟩
    by_cases hlt : k < n
    · obtain ⟨b, o, rfl, _, hc⟩ := HB.out.2.2 k hlt
      by_cases hx : xs.getD k 0 = 255
      · rw [hx] at hc
        have HX := Lib.hid hx
        clear hx
        go_wp2
        go_step3
        refine ⟨rfl, ⟨rfl, k + 1, _, _, _, _, _, _, _, _, _, _, _, _, _, _, by go_num, by omega, Lib.hid ⟨by have := HK.out.1; omega, fun j h1 h2 => ?_⟩⟩, ?_⟩
        · rcases Nat.lt_or_eq_of_le (Nat.le_of_lt_succ h2) with h3 | h3
          · exact HK.out.2 j h1 h3
          · rw [h3]; exact HX.out
        · simp [intOf]
          omega
      · have hne : (xs.getD k 0 == 255) = false := by rw [beq_eq_false_iff_ne]; exact hx
        have HX := Lib.hid hx
        generalize xs.getD k 0 = y at hc hne
        clear hx
        go_wp2
        simp only [Exit.jump]
        go_ret
        exact ⟨k, rfl, Lib.hid ⟨HK.out.1, by omega, HK.out.2, fun _ => HX.out⟩, rfl⟩
    · go_wp2
      simp only [Exit.jump]
      go_ret
      exact ⟨k, rfl, Lib.hid ⟨HK.out.1, hk, HK.out.2, fun h => by omega⟩, rfl⟩
theorem prog_blank {xs : List Int} {a n p : Nat} (h : Prog xs a n p) (hn : xs.length = n) (hb : RecM.blank xs a = true) : p = n := by
  obtain ⟨h1, h2, h3, h4⟩ := h
  rcases Nat.lt_or_eq_of_le h2 with h5 | h5
  · have h6 := h4 h5
    unfold RecM.blank at hb
    rw [List.all_eq_true] at hb
    have h7 : p < xs.length := by omega
    have h8 := hb xs[p] (by
      rw [List.mem_iff_getElem]
      exact ⟨p - a, by rw [List.length_drop]; omega, by rw [List.getElem_drop]; congr 1; omega⟩)
    rw [List.getD_eq_getElem?_getD, List.getElem?_eq_getElem h7, Option.getD_some] at h6
    simp at h8
    exact absurd h8 h6
  · exact h5
theorem prog_some {xs : List Int} {a n p : Nat} (h : Prog xs a n p) (hn : xs.length = n) (hb : RecM.blank xs a = false) : p < n := by
  obtain ⟨h1, h2, h3, h4⟩ := h
  rcases Nat.lt_or_eq_of_le h2 with h5 | h5
  · exact h5
  · exfalso
    subst h5
    unfold RecM.blank at hb
    rw [List.all_eq_false] at hb
    obtain ⟨x, hx, hx2⟩ := hb
    obtain ⟨i, hi, rfl⟩ := List.getElem_of_mem hx
    rw [List.length_drop] at hi
    rw [List.getElem_drop] at hx2
    have h6 := h3 (a + i) (by omega) (by omega)
    rw [List.getD_eq_getElem?_getD, List.getElem?_eq_getElem (by omega), Option.getD_some] at h6
    rw [h6] at hx2
    simp at hx2
end Go.Proofs.YthbafcihmcjchaaGreatDoor.RecW
