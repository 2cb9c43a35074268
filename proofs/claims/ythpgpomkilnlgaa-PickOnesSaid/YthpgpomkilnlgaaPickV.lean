/- The contract of the project's choose of layer 11: the best of a row, over function values. -/
import Derived.Test.YthpgpomkilnlgaaPickL
import Derived.Test.YthpgpomkilnlgaaHo
namespace Go.Proofs.Ythpgpomkilnlgaa.PickV
set_option linter.unusedVariables false
set_option linter.unusedSimpArgs false
open Go.RowKit
open Go.Proofs.Ythpgpomkilnlgaa.Byte Go.Proofs.Ythpgpomkilnlgaa.PickM Go.Proofs.Ythpgpomkilnlgaa.PickN Go.Proofs.Ythpgpomkilnlgaa.Own Go.Proofs.Ythpgpomkilnlgaa.Rw Go.Proofs.Ythpgpomkilnlgaa.Lst Go.Proofs.Ythpgpomkilnlgaa.PickR Go.Proofs.Ythpgpomkilnlgaa.PickRe Go.Proofs.Ythpgpomkilnlgaa.PickL Go.Proofs.Ythpgpomkilnlgaa.Ho

/-- A function value that tells of a sector. -/
def Tells (L : List Inf) (F : FuncId) (cap : Array Value) (w : World) (p : Inf → Bool) : Prop := ∀ (x : Inf) (w' : World), x ∈ L → Below w.heap.size w w' → Calls Try.prog F (#[infV x] ++ cap) w' fun e w2 => e = .returned (.bool (p x)) ∧ Below w'.heap.size w' w2
def Tells2 (F : FuncId) (cap : Array Value) (w : World) (p : Inf → Inf → Bool) : Prop := ∀ (x y : Inf) (w' : World), Below w.heap.size w w' → Calls Try.prog F (#[infV x, infV y] ++ cap) w' fun e w2 => e = .returned (.bool (p x y)) ∧ Below w'.heap.size w' w2
theorem tell_is {L : List Inf} {F : FuncId} {cap : Array Value} {w : World} {p : Inf → Bool} (h : Tells L F cap w p) {x : Inf} {b : Bool} (hb : p x = b) (hx : x ∈ L) (w' : World) (hw : Below w.heap.size w w') : Calls Try.prog F (#[infV x] ++ cap) w' fun e w2 => e = .returned (.bool b) ∧ Below w'.heap.size w' w2 := by
  subst hb
  exact h x w' hx hw
theorem tell2_is {F : FuncId} {cap : Array Value} {w : World} {p : Inf → Inf → Bool} (h : Tells2 F cap w p) {x y : Inf} {b : Bool} (hb : p x y = b) (w' : World) (hw : Below w.heap.size w w') : Calls Try.prog F (#[infV x, infV y] ++ cap) w' fun e w2 => e = .returned (.bool b) ∧ Below w'.heap.size w' w2 := by
  subst hb
  exact h x y w' hw
set_option maxRecDepth 100000 in
set_option maxHeartbeats 8000000 in
theorem choose_calls (F G : FuncId) (ca cb : Array Value) (p : Inf → Bool) (lt : Inf → Inf → Bool) (A : Option Addr) (n c : Nat) (L : List Inf) (w : World) (hl : Sl infE w A n L) (hn : n ≤ 100000) (hF : ∀ (args : Array Value) (w : World), (callFunc F args).run Try.prog w = .ok (.enter F args) w) (hG : ∀ (args : Array Value) (w : World), (callFunc G args).run Try.prog w = .ok (.enter G args) w) (hT : Tells L F ca w p) (hT2 : Tells2 G cb w lt) :
    Calls Try.prog 20 #[.slice A n c, .func (.func F) #[] ca, .func (.func G) #[] cb] w fun e w' => e = .returned (.tuple #[.int .i64 (ansN (bestL p lt L)), .bool (bestL p lt L).isSome]) ∧ Below w.heap.size w w' := by
  have HL := Lib.hid hl
  have HT := Lib.hid hT
  have HT2 := Lib.hid hT2
  clear hl hT hT2
  go_enter Try.func20, Try.ntmps20
  go_wp2
  go_loopw [8, 9, 14] (fun a d i wr => ∃ (k : Nat) (B : Bst), k ≤ n ∧ i = .int .i64 k ∧ a = .int .i64 (ansN B) ∧ d = .bool B.isSome ∧ Hid (bestL p lt (L.take k) = B) ∧ Below w.heap.size w wr) (fun _ _ i _ => n - (intOf i).toNat)
  case atStart => exact ⟨0, none, Nat.zero_le _, rfl, rfl, rfl, Lib.hid rfl, Below.refl _ _⟩
  case round =>
    obtain ⟨k, B, hk, rfl, rfl, rfl, HB, hbel⟩ := hrel
    by_cases hlt : k < n
    · obtain ⟨x, g, o, hx, rfl, hg, hc⟩ := (HL.out.below hbel).get k hlt
      have HC : Hid (wr.rangeAt g (o + k * 6) [.int .i64 x.cls, .bool x.opn, .int .i64 x.wear, .int .u64 x.age, .int .i64 x.need, .bool x.held]) := Lib.hid hc
      have HX := Lib.hid hx
      have hb1 : Below w.heap.size w (wr.alloc (.cells #[.int .i64 x.cls, .bool x.opn, .int .i64 x.wear, .int .u64 x.age, .int .i64 x.need, .bool x.held] 29)) := hbel.alloc hbel.size _
      have HV0 := Lib.hid hb1
      have HXB0 := Lib.hid (Blk.new_ wr #[.int .i64 x.cls, .bool x.opn, .int .i64 x.wear, .int .u64 x.age, .int .i64 x.need, .bool x.held] 29)
      have HN := Lib.hid (best_next hx p lt)
      have HXM := Lib.hid (List.mem_of_getElem? hx)
      have hjL : k ≤ L.length := by rw [HL.out.1]; omega
      have HJL := Lib.hid hjL
      clear hc hx hbel hb1 hjL
      cases B with
      | none =>
        rw [show ansN (none : Bst) = 0 from rfl, show (none : Bst).isSome = false from rfl]
        cases hp : p x with
        | false =>
          have HP := Lib.hid hp
          have HB2 : Hid (bestL p lt (L.take (k + 1)) = none) := Lib.hid (by rw [HN.out, HB.out, if_neg (by simp [takes, hp])])
          clear hp
          go_wp2_with ((with_reducible refine pick (some 18) ?_); refine wpList_load_mid rfl 29 _ rfl g (o + k * 6) rfl [.int .i64 x.cls, .bool x.opn, .int .i64 x.wear, .int .u64 x.age, .int .i64 x.need, .bool x.held] _ HC.out Try.underlying29 rfl info_inf6 ?_)
          obtain ⟨V, hV⟩ : ∃ V, wr.alloc (.cells #[.int .i64 x.cls, .bool x.opn, .int .i64 x.wear, .int .u64 x.age, .int .i64 x.need, .bool x.held] 29) = V := ⟨_, rfl⟩
          have HV1 := Lib.hid HV0.out
          rw [hV] at HV1 HXB0 ⊢
          have HV := Lib.hid HV1.out
          obtain ⟨gb, hgb⟩ : ∃ gb, wr.heap.size = gb := ⟨_, rfl⟩
          rw [hgb] at HXB0 ⊢
          have HXB := Lib.hid HXB0.out
          clear hV hgb HV0 HV1 HXB0
          have RD : Hid (∀ v, Below V.heap.size V v → Below V.heap.size V v ∧ v.cell? ⟨gb, 0, none⟩ = some (.int .i64 x.cls) ∧ v.cell? ⟨gb, 1, none⟩ = some (.bool x.opn) ∧ v.cell? ⟨gb, 2, none⟩ = some (.int .i64 x.wear) ∧ v.cell? ⟨gb, 3, none⟩ = some (.int .u64 x.age) ∧ v.cell? ⟨gb, 4, none⟩ = some (.int .i64 x.need) ∧ v.cell? ⟨gb, 5, none⟩ = some (.bool x.held)) := Lib.hid fun v hv => (by
            have hk := HXB.out.below hv
            exact ⟨hv, hk.cell 0, hk.cell 1, hk.cell 2, hk.cell 3, hk.cell 4, hk.cell 5⟩)
          refine wp_region_held_drew (S := fun v => Below V.heap.size V v ∧ v.cell? ⟨gb, 0, none⟩ = some (.int .i64 x.cls) ∧ v.cell? ⟨gb, 1, none⟩ = some (.bool x.opn) ∧ v.cell? ⟨gb, 2, none⟩ = some (.int .i64 x.wear) ∧ v.cell? ⟨gb, 3, none⟩ = some (.int .u64 x.age) ∧ v.cell? ⟨gb, 4, none⟩ = some (.int .i64 x.need) ∧ v.cell? ⟨gb, 5, none⟩ = some (.bool x.held)) (by kernel_rfl) (RD.out _ (Below.drew (Below.refl _ _))) (fun hHeld => ?_)
          refine ho_val (v := ?_) 0 (some 19) rfl rfl (by kernel_rfl) (by kernel_rfl) (by kernel_rfl) (fun _ _ _ h => h) (by kernel_rfl) (fun w hSw => ?_) (by assumption) ?_
          rotate_left
          · ((try dsimp only at hSw); go_simp; try with_reducible rfl)
          simp only [Act.put, List.setIfInBounds_toArray, List.set_cons_zero, List.set_cons_succ]
          refine ho_val (v := ?_) 1 (some 20) rfl rfl (by kernel_rfl) (by kernel_rfl) (by kernel_rfl) (fun _ _ _ h => h) (by kernel_rfl) (fun w hSw => ?_) (by assumption) ?_
          rotate_left
          · ((try dsimp only at hSw); go_simp; try with_reducible rfl)
          simp only [Act.put, List.setIfInBounds_toArray, List.set_cons_zero, List.set_cons_succ]
          refine ho_step 2 (some 21) rfl rfl (by kernel_rfl) (by kernel_rfl) (fun K hK => ?_)
          go_simp
          (refine (tell_is HT.out HP.out HXM.out _ (keeps HV.out (And.left hHeld))).mono ?_; rintro e w5 ⟨rfl, hb5⟩; have hx5 : Below V.heap.size V w5 := keeps (And.left hHeld) hb5)
          try go_wp2_with fail
          refine hK.out _ _ (RD.out _ hx5) (fun hHeld2 => ?_)
          clear hHeld
          have hHeld := hHeld2
          clear hHeld2
          clear hK K
          try simp only [Act.put, List.setIfInBounds_toArray, List.set_cons_zero, List.set_cons_succ]
          refine ho_val (v := ?_) 3 (some 22) rfl rfl (by kernel_rfl) (by kernel_rfl) (by kernel_rfl) (fun _ _ _ h => h) (by kernel_rfl) (fun w hSw => ?_) (by assumption) ?_
          rotate_left
          · ((try dsimp only at hSw); go_simp; try with_reducible rfl)
          simp only [Act.put, List.setIfInBounds_toArray, List.set_cons_zero, List.set_cons_succ]
          refine ho_skip 4 (some 23) rfl rfl (by kernel_rfl) (by kernel_rfl) (by kernel_rfl) (fun _ _ _ h => h) (by kernel_rfl) (by assumption) ?_; simp only [Act.put, List.setIfInBounds_toArray, List.set_cons_zero, List.set_cons_succ]
          refine ho_skip 5 (some 24) rfl rfl (by kernel_rfl) (by kernel_rfl) (by kernel_rfl) (fun _ _ _ h => h) (by kernel_rfl) (by assumption) ?_; simp only [Act.put, List.setIfInBounds_toArray, List.set_cons_zero, List.set_cons_succ]
          refine ho_skip 6 (some 25) rfl rfl (by kernel_rfl) (by kernel_rfl) (by kernel_rfl) (fun _ _ _ h => h) (by kernel_rfl) (by assumption) ?_; simp only [Act.put, List.setIfInBounds_toArray, List.set_cons_zero, List.set_cons_succ]
          refine ho_skip 7 (some 26) rfl rfl (by kernel_rfl) (by kernel_rfl) (by kernel_rfl) (fun _ _ _ h => h) (by kernel_rfl) (by assumption) ?_; simp only [Act.put, List.setIfInBounds_toArray, List.set_cons_zero, List.set_cons_succ]
          refine ho_skip 8 (some 27) rfl rfl (by kernel_rfl) (by kernel_rfl) (by kernel_rfl) (fun _ _ _ h => h) (by kernel_rfl) (by assumption) ?_; simp only [Act.put, List.setIfInBounds_toArray, List.set_cons_zero, List.set_cons_succ]
          refine ho_skip 9 (some 28) rfl rfl (by kernel_rfl) (by kernel_rfl) (by kernel_rfl) (fun _ _ _ h => h) (by kernel_rfl) (by assumption) ?_; simp only [Act.put, List.setIfInBounds_toArray, List.set_cons_zero, List.set_cons_succ]
          refine ho_skip 10 (some 29) rfl rfl (by kernel_rfl) (by kernel_rfl) (by kernel_rfl) (fun _ _ _ h => h) (by kernel_rfl) (by assumption) ?_; simp only [Act.put, List.setIfInBounds_toArray, List.set_cons_zero, List.set_cons_succ]
          refine ho_skip 11 (some 30) rfl rfl (by kernel_rfl) (by kernel_rfl) (by kernel_rfl) (fun _ _ _ h => h) (by kernel_rfl) (by assumption) ?_; simp only [Act.put, List.setIfInBounds_toArray, List.set_cons_zero, List.set_cons_succ]
          refine ho_skip 12 (some 31) rfl rfl (by kernel_rfl) (by kernel_rfl) (by kernel_rfl) (fun _ _ _ h => h) (by kernel_rfl) (by assumption) ?_; simp only [Act.put, List.setIfInBounds_toArray, List.set_cons_zero, List.set_cons_succ]
          refine ho_skip 13 (some 32) rfl rfl (by kernel_rfl) (by kernel_rfl) (by kernel_rfl) (fun _ _ _ h => h) (by kernel_rfl) (by assumption) ?_; simp only [Act.put, List.setIfInBounds_toArray, List.set_cons_zero, List.set_cons_succ]
          refine ho_skip 14 (some 33) rfl rfl (by kernel_rfl) (by kernel_rfl) (by kernel_rfl) (fun _ _ _ h => h) (by kernel_rfl) (by assumption) ?_; simp only [Act.put, List.setIfInBounds_toArray, List.set_cons_zero, List.set_cons_succ]
          refine ho_val (v := ?_) 15 (some 34) rfl rfl (by kernel_rfl) (by kernel_rfl) (by kernel_rfl) (fun _ _ _ h => h) (by kernel_rfl) (fun w hSw => ?_) (by assumption) ?_
          rotate_left
          · ((try dsimp only at hSw); go_simp; try with_reducible rfl)
          simp only [Act.put, List.setIfInBounds_toArray, List.set_cons_zero, List.set_cons_succ]
          refine wpAnyH_done (by kernel_rfl) ?_ _
          have HZ := Lib.hid (keeps HV.out hHeld.1)
          clear hHeld RD
          go_wp2_with fail
          go_roundw
          case rel => exact ⟨k + 1, none, by omega, by go_num, rfl, rfl, Lib.hid (HB2.out), HZ.out⟩
          case measure => simp [intOf]; omega
        | true =>
          have HP := Lib.hid hp
          have HB2 : Hid (bestL p lt (L.take (k + 1)) = some (k, x)) := Lib.hid (by rw [HN.out, HB.out, if_pos (by simp [takes, hp])])
          clear hp
          go_wp2_with ((with_reducible refine pick (some 18) ?_); refine wpList_load_mid rfl 29 _ rfl g (o + k * 6) rfl [.int .i64 x.cls, .bool x.opn, .int .i64 x.wear, .int .u64 x.age, .int .i64 x.need, .bool x.held] _ HC.out Try.underlying29 rfl info_inf6 ?_)
          obtain ⟨V, hV⟩ : ∃ V, wr.alloc (.cells #[.int .i64 x.cls, .bool x.opn, .int .i64 x.wear, .int .u64 x.age, .int .i64 x.need, .bool x.held] 29) = V := ⟨_, rfl⟩
          have HV1 := Lib.hid HV0.out
          rw [hV] at HV1 HXB0 ⊢
          have HV := Lib.hid HV1.out
          obtain ⟨gb, hgb⟩ : ∃ gb, wr.heap.size = gb := ⟨_, rfl⟩
          rw [hgb] at HXB0 ⊢
          have HXB := Lib.hid HXB0.out
          clear hV hgb HV0 HV1 HXB0
          have RD : Hid (∀ v, Below V.heap.size V v → Below V.heap.size V v ∧ v.cell? ⟨gb, 0, none⟩ = some (.int .i64 x.cls) ∧ v.cell? ⟨gb, 1, none⟩ = some (.bool x.opn) ∧ v.cell? ⟨gb, 2, none⟩ = some (.int .i64 x.wear) ∧ v.cell? ⟨gb, 3, none⟩ = some (.int .u64 x.age) ∧ v.cell? ⟨gb, 4, none⟩ = some (.int .i64 x.need) ∧ v.cell? ⟨gb, 5, none⟩ = some (.bool x.held)) := Lib.hid fun v hv => (by
            have hk := HXB.out.below hv
            exact ⟨hv, hk.cell 0, hk.cell 1, hk.cell 2, hk.cell 3, hk.cell 4, hk.cell 5⟩)
          refine wp_region_held_drew (S := fun v => Below V.heap.size V v ∧ v.cell? ⟨gb, 0, none⟩ = some (.int .i64 x.cls) ∧ v.cell? ⟨gb, 1, none⟩ = some (.bool x.opn) ∧ v.cell? ⟨gb, 2, none⟩ = some (.int .i64 x.wear) ∧ v.cell? ⟨gb, 3, none⟩ = some (.int .u64 x.age) ∧ v.cell? ⟨gb, 4, none⟩ = some (.int .i64 x.need) ∧ v.cell? ⟨gb, 5, none⟩ = some (.bool x.held)) (by kernel_rfl) (RD.out _ (Below.drew (Below.refl _ _))) (fun hHeld => ?_)
          refine ho_val (v := ?_) 0 (some 19) rfl rfl (by kernel_rfl) (by kernel_rfl) (by kernel_rfl) (fun _ _ _ h => h) (by kernel_rfl) (fun w hSw => ?_) (by assumption) ?_
          rotate_left
          · ((try dsimp only at hSw); go_simp; try with_reducible rfl)
          simp only [Act.put, List.setIfInBounds_toArray, List.set_cons_zero, List.set_cons_succ]
          refine ho_val (v := ?_) 1 (some 20) rfl rfl (by kernel_rfl) (by kernel_rfl) (by kernel_rfl) (fun _ _ _ h => h) (by kernel_rfl) (fun w hSw => ?_) (by assumption) ?_
          rotate_left
          · ((try dsimp only at hSw); go_simp; try with_reducible rfl)
          simp only [Act.put, List.setIfInBounds_toArray, List.set_cons_zero, List.set_cons_succ]
          refine ho_step 2 (some 21) rfl rfl (by kernel_rfl) (by kernel_rfl) (fun K hK => ?_)
          go_simp
          (refine (tell_is HT.out HP.out HXM.out _ (keeps HV.out (And.left hHeld))).mono ?_; rintro e w5 ⟨rfl, hb5⟩; have hx5 : Below V.heap.size V w5 := keeps (And.left hHeld) hb5)
          try go_wp2_with fail
          refine hK.out _ _ (RD.out _ hx5) (fun hHeld2 => ?_)
          clear hHeld
          have hHeld := hHeld2
          clear hHeld2
          clear hK K
          try simp only [Act.put, List.setIfInBounds_toArray, List.set_cons_zero, List.set_cons_succ]
          refine ho_val (v := ?_) 3 (some 22) rfl rfl (by kernel_rfl) (by kernel_rfl) (by kernel_rfl) (fun _ _ _ h => h) (by kernel_rfl) (fun w hSw => ?_) (by assumption) ?_
          rotate_left
          · ((try dsimp only at hSw); go_simp; try with_reducible rfl)
          simp only [Act.put, List.setIfInBounds_toArray, List.set_cons_zero, List.set_cons_succ]
          refine ho_val (v := ?_) 4 (some 23) rfl rfl (by kernel_rfl) (by kernel_rfl) (by kernel_rfl) (fun _ _ _ h => h) (by kernel_rfl) (fun w hSw => ?_) (by assumption) ?_
          rotate_left
          · ((try dsimp only at hSw); go_simp; try with_reducible rfl)
          simp only [Act.put, List.setIfInBounds_toArray, List.set_cons_zero, List.set_cons_succ]
          refine ho_val (v := ?_) 5 (some 24) rfl rfl (by kernel_rfl) (by kernel_rfl) (by kernel_rfl) (fun _ _ _ h => h) (by kernel_rfl) (fun w hSw => ?_) (by assumption) ?_
          rotate_left
          · ((try dsimp only at hSw); go_simp; try with_reducible rfl)
          simp only [Act.put, List.setIfInBounds_toArray, List.set_cons_zero, List.set_cons_succ]
          refine ho_val (v := ?_) 6 (some 25) rfl rfl (by kernel_rfl) (by kernel_rfl) (by kernel_rfl) (fun _ _ _ h => h) (by kernel_rfl) (fun w hSw => ?_) (by assumption) ?_
          rotate_left
          · ((try dsimp only at hSw); go_simp; try with_reducible rfl)
          simp only [Act.put, List.setIfInBounds_toArray, List.set_cons_zero, List.set_cons_succ]
          refine ho_skip 7 (some 26) rfl rfl (by kernel_rfl) (by kernel_rfl) (by kernel_rfl) (fun _ _ _ h => h) (by kernel_rfl) (by assumption) ?_; simp only [Act.put, List.setIfInBounds_toArray, List.set_cons_zero, List.set_cons_succ]
          refine ho_skip 8 (some 27) rfl rfl (by kernel_rfl) (by kernel_rfl) (by kernel_rfl) (fun _ _ _ h => h) (by kernel_rfl) (by assumption) ?_; simp only [Act.put, List.setIfInBounds_toArray, List.set_cons_zero, List.set_cons_succ]
          refine ho_skip 9 (some 28) rfl rfl (by kernel_rfl) (by kernel_rfl) (by kernel_rfl) (fun _ _ _ h => h) (by kernel_rfl) (by assumption) ?_; simp only [Act.put, List.setIfInBounds_toArray, List.set_cons_zero, List.set_cons_succ]
          refine ho_skip 10 (some 29) rfl rfl (by kernel_rfl) (by kernel_rfl) (by kernel_rfl) (fun _ _ _ h => h) (by kernel_rfl) (by assumption) ?_; simp only [Act.put, List.setIfInBounds_toArray, List.set_cons_zero, List.set_cons_succ]
          refine ho_skip 11 (some 30) rfl rfl (by kernel_rfl) (by kernel_rfl) (by kernel_rfl) (fun _ _ _ h => h) (by kernel_rfl) (by assumption) ?_; simp only [Act.put, List.setIfInBounds_toArray, List.set_cons_zero, List.set_cons_succ]
          refine ho_skip 12 (some 31) rfl rfl (by kernel_rfl) (by kernel_rfl) (by kernel_rfl) (fun _ _ _ h => h) (by kernel_rfl) (by assumption) ?_; simp only [Act.put, List.setIfInBounds_toArray, List.set_cons_zero, List.set_cons_succ]
          refine ho_skip 13 (some 32) rfl rfl (by kernel_rfl) (by kernel_rfl) (by kernel_rfl) (fun _ _ _ h => h) (by kernel_rfl) (by assumption) ?_; simp only [Act.put, List.setIfInBounds_toArray, List.set_cons_zero, List.set_cons_succ]
          refine ho_val (v := ?_) 14 (some 33) rfl rfl (by kernel_rfl) (by kernel_rfl) (by kernel_rfl) (fun _ _ _ h => h) (by kernel_rfl) (fun w hSw => ?_) (by assumption) ?_
          rotate_left
          · ((try dsimp only at hSw); go_simp; try with_reducible rfl)
          simp only [Act.put, List.setIfInBounds_toArray, List.set_cons_zero, List.set_cons_succ]
          refine ho_val (v := ?_) 15 (some 34) rfl rfl (by kernel_rfl) (by kernel_rfl) (by kernel_rfl) (fun _ _ _ h => h) (by kernel_rfl) (fun w hSw => ?_) (by assumption) ?_
          rotate_left
          · ((try dsimp only at hSw); go_simp; try with_reducible rfl)
          simp only [Act.put, List.setIfInBounds_toArray, List.set_cons_zero, List.set_cons_succ]
          refine wpAnyH_done (by kernel_rfl) ?_ _
          have HZ := Lib.hid (keeps HV.out hHeld.1)
          clear hHeld RD
          go_wp2_with fail
          go_roundw
          case rel => exact ⟨k + 1, some (k, x), by omega, by go_num, rfl, rfl, Lib.hid (HB2.out), HZ.out⟩
          case measure => simp [intOf]; omega
      | some q =>
        obtain ⟨i, y⟩ := q
        rw [show ansN (some (i, y) : Bst) = (i : Int) from rfl, show (some (i, y) : Bst).isSome = true from rfl]
        cases hp : p x with
        | false =>
          have HP := Lib.hid hp
          have HB2 : Hid (bestL p lt (L.take (k + 1)) = some (i, y)) := Lib.hid (by rw [HN.out, HB.out, if_neg (by simp [takes, hp])])
          clear hp
          go_wp2_with ((with_reducible refine pick (some 18) ?_); refine wpList_load_mid rfl 29 _ rfl g (o + k * 6) rfl [.int .i64 x.cls, .bool x.opn, .int .i64 x.wear, .int .u64 x.age, .int .i64 x.need, .bool x.held] _ HC.out Try.underlying29 rfl info_inf6 ?_)
          obtain ⟨V, hV⟩ : ∃ V, wr.alloc (.cells #[.int .i64 x.cls, .bool x.opn, .int .i64 x.wear, .int .u64 x.age, .int .i64 x.need, .bool x.held] 29) = V := ⟨_, rfl⟩
          have HV1 := Lib.hid HV0.out
          rw [hV] at HV1 HXB0 ⊢
          have HV := Lib.hid HV1.out
          obtain ⟨gb, hgb⟩ : ∃ gb, wr.heap.size = gb := ⟨_, rfl⟩
          rw [hgb] at HXB0 ⊢
          have HXB := Lib.hid HXB0.out
          clear hV hgb HV0 HV1 HXB0
          have RD : Hid (∀ v, Below V.heap.size V v → Below V.heap.size V v ∧ v.cell? ⟨gb, 0, none⟩ = some (.int .i64 x.cls) ∧ v.cell? ⟨gb, 1, none⟩ = some (.bool x.opn) ∧ v.cell? ⟨gb, 2, none⟩ = some (.int .i64 x.wear) ∧ v.cell? ⟨gb, 3, none⟩ = some (.int .u64 x.age) ∧ v.cell? ⟨gb, 4, none⟩ = some (.int .i64 x.need) ∧ v.cell? ⟨gb, 5, none⟩ = some (.bool x.held)) := Lib.hid fun v hv => (by
            have hk := HXB.out.below hv
            exact ⟨hv, hk.cell 0, hk.cell 1, hk.cell 2, hk.cell 3, hk.cell 4, hk.cell 5⟩)
          refine wp_region_held_drew (S := fun v => Below V.heap.size V v ∧ v.cell? ⟨gb, 0, none⟩ = some (.int .i64 x.cls) ∧ v.cell? ⟨gb, 1, none⟩ = some (.bool x.opn) ∧ v.cell? ⟨gb, 2, none⟩ = some (.int .i64 x.wear) ∧ v.cell? ⟨gb, 3, none⟩ = some (.int .u64 x.age) ∧ v.cell? ⟨gb, 4, none⟩ = some (.int .i64 x.need) ∧ v.cell? ⟨gb, 5, none⟩ = some (.bool x.held)) (by kernel_rfl) (RD.out _ (Below.drew (Below.refl _ _))) (fun hHeld => ?_)
          refine ho_val (v := ?_) 0 (some 19) rfl rfl (by kernel_rfl) (by kernel_rfl) (by kernel_rfl) (fun _ _ _ h => h) (by kernel_rfl) (fun w hSw => ?_) (by assumption) ?_
          rotate_left
          · ((try dsimp only at hSw); go_simp; try with_reducible rfl)
          simp only [Act.put, List.setIfInBounds_toArray, List.set_cons_zero, List.set_cons_succ]
          refine ho_val (v := ?_) 1 (some 20) rfl rfl (by kernel_rfl) (by kernel_rfl) (by kernel_rfl) (fun _ _ _ h => h) (by kernel_rfl) (fun w hSw => ?_) (by assumption) ?_
          rotate_left
          · ((try dsimp only at hSw); go_simp; try with_reducible rfl)
          simp only [Act.put, List.setIfInBounds_toArray, List.set_cons_zero, List.set_cons_succ]
          refine ho_step 2 (some 21) rfl rfl (by kernel_rfl) (by kernel_rfl) (fun K hK => ?_)
          go_simp
          (refine (tell_is HT.out HP.out HXM.out _ (keeps HV.out (And.left hHeld))).mono ?_; rintro e w5 ⟨rfl, hb5⟩; have hx5 : Below V.heap.size V w5 := keeps (And.left hHeld) hb5)
          try go_wp2_with fail
          refine hK.out _ _ (RD.out _ hx5) (fun hHeld2 => ?_)
          clear hHeld
          have hHeld := hHeld2
          clear hHeld2
          clear hK K
          try simp only [Act.put, List.setIfInBounds_toArray, List.set_cons_zero, List.set_cons_succ]
          refine ho_val (v := ?_) 3 (some 22) rfl rfl (by kernel_rfl) (by kernel_rfl) (by kernel_rfl) (fun _ _ _ h => h) (by kernel_rfl) (fun w hSw => ?_) (by assumption) ?_
          rotate_left
          · ((try dsimp only at hSw); go_simp; try with_reducible rfl)
          simp only [Act.put, List.setIfInBounds_toArray, List.set_cons_zero, List.set_cons_succ]
          refine ho_skip 4 (some 23) rfl rfl (by kernel_rfl) (by kernel_rfl) (by kernel_rfl) (fun _ _ _ h => h) (by kernel_rfl) (by assumption) ?_; simp only [Act.put, List.setIfInBounds_toArray, List.set_cons_zero, List.set_cons_succ]
          refine ho_skip 5 (some 24) rfl rfl (by kernel_rfl) (by kernel_rfl) (by kernel_rfl) (fun _ _ _ h => h) (by kernel_rfl) (by assumption) ?_; simp only [Act.put, List.setIfInBounds_toArray, List.set_cons_zero, List.set_cons_succ]
          refine ho_skip 6 (some 25) rfl rfl (by kernel_rfl) (by kernel_rfl) (by kernel_rfl) (fun _ _ _ h => h) (by kernel_rfl) (by assumption) ?_; simp only [Act.put, List.setIfInBounds_toArray, List.set_cons_zero, List.set_cons_succ]
          refine ho_skip 7 (some 26) rfl rfl (by kernel_rfl) (by kernel_rfl) (by kernel_rfl) (fun _ _ _ h => h) (by kernel_rfl) (by assumption) ?_; simp only [Act.put, List.setIfInBounds_toArray, List.set_cons_zero, List.set_cons_succ]
          refine ho_skip 8 (some 27) rfl rfl (by kernel_rfl) (by kernel_rfl) (by kernel_rfl) (fun _ _ _ h => h) (by kernel_rfl) (by assumption) ?_; simp only [Act.put, List.setIfInBounds_toArray, List.set_cons_zero, List.set_cons_succ]
          refine ho_skip 9 (some 28) rfl rfl (by kernel_rfl) (by kernel_rfl) (by kernel_rfl) (fun _ _ _ h => h) (by kernel_rfl) (by assumption) ?_; simp only [Act.put, List.setIfInBounds_toArray, List.set_cons_zero, List.set_cons_succ]
          refine ho_skip 10 (some 29) rfl rfl (by kernel_rfl) (by kernel_rfl) (by kernel_rfl) (fun _ _ _ h => h) (by kernel_rfl) (by assumption) ?_; simp only [Act.put, List.setIfInBounds_toArray, List.set_cons_zero, List.set_cons_succ]
          refine ho_skip 11 (some 30) rfl rfl (by kernel_rfl) (by kernel_rfl) (by kernel_rfl) (fun _ _ _ h => h) (by kernel_rfl) (by assumption) ?_; simp only [Act.put, List.setIfInBounds_toArray, List.set_cons_zero, List.set_cons_succ]
          refine ho_skip 12 (some 31) rfl rfl (by kernel_rfl) (by kernel_rfl) (by kernel_rfl) (fun _ _ _ h => h) (by kernel_rfl) (by assumption) ?_; simp only [Act.put, List.setIfInBounds_toArray, List.set_cons_zero, List.set_cons_succ]
          refine ho_skip 13 (some 32) rfl rfl (by kernel_rfl) (by kernel_rfl) (by kernel_rfl) (fun _ _ _ h => h) (by kernel_rfl) (by assumption) ?_; simp only [Act.put, List.setIfInBounds_toArray, List.set_cons_zero, List.set_cons_succ]
          refine ho_skip 14 (some 33) rfl rfl (by kernel_rfl) (by kernel_rfl) (by kernel_rfl) (fun _ _ _ h => h) (by kernel_rfl) (by assumption) ?_; simp only [Act.put, List.setIfInBounds_toArray, List.set_cons_zero, List.set_cons_succ]
          refine ho_val (v := ?_) 15 (some 34) rfl rfl (by kernel_rfl) (by kernel_rfl) (by kernel_rfl) (fun _ _ _ h => h) (by kernel_rfl) (fun w hSw => ?_) (by assumption) ?_
          rotate_left
          · ((try dsimp only at hSw); go_simp; try with_reducible rfl)
          simp only [Act.put, List.setIfInBounds_toArray, List.set_cons_zero, List.set_cons_succ]
          refine wpAnyH_done (by kernel_rfl) ?_ _
          have HZ := Lib.hid (keeps HV.out hHeld.1)
          clear hHeld RD
          go_wp2_with fail
          go_roundw
          case rel => exact ⟨k + 1, some (i, y), by omega, by go_num, rfl, rfl, Lib.hid (HB2.out), HZ.out⟩
          case measure => simp [intOf]; omega
        | true =>
          have HP := Lib.hid hp
          obtain ⟨hik, hy, _⟩ := best_in k HJL.out HB.out
          have HY := Lib.hid hy
          have hii : (i : Int) < (n : Int) := by omega
          cases hq : lt x y with
          | false =>
            have HB2 : Hid (bestL p lt (L.take (k + 1)) = some (i, y)) := Lib.hid (by rw [HN.out, HB.out, if_neg (by simp [takes, hp, hq])])
            have HP2 := Lib.hid hq
            clear hq hy
            clear hp
            go_wp2_with ((with_reducible refine pick (some 18) ?_); refine wpList_load_mid rfl 29 _ rfl g (o + k * 6) rfl [.int .i64 x.cls, .bool x.opn, .int .i64 x.wear, .int .u64 x.age, .int .i64 x.need, .bool x.held] _ HC.out Try.underlying29 rfl info_inf6 ?_)
            obtain ⟨V, hV⟩ : ∃ V, wr.alloc (.cells #[.int .i64 x.cls, .bool x.opn, .int .i64 x.wear, .int .u64 x.age, .int .i64 x.need, .bool x.held] 29) = V := ⟨_, rfl⟩
            have HV1 := Lib.hid HV0.out
            rw [hV] at HV1 HXB0 ⊢
            have HV := Lib.hid HV1.out
            obtain ⟨gb, hgb⟩ : ∃ gb, wr.heap.size = gb := ⟨_, rfl⟩
            rw [hgb] at HXB0 ⊢
            have HXB := Lib.hid HXB0.out
            clear hV hgb HV0 HV1 HXB0
            have RD : Hid (∀ v, Below V.heap.size V v → Below V.heap.size V v ∧ v.cell? ⟨gb, 0, none⟩ = some (.int .i64 x.cls) ∧ v.cell? ⟨gb, 1, none⟩ = some (.bool x.opn) ∧ v.cell? ⟨gb, 2, none⟩ = some (.int .i64 x.wear) ∧ v.cell? ⟨gb, 3, none⟩ = some (.int .u64 x.age) ∧ v.cell? ⟨gb, 4, none⟩ = some (.int .i64 x.need) ∧ v.cell? ⟨gb, 5, none⟩ = some (.bool x.held) ∧ v.cell? ⟨g, o + i * 6, none⟩ = some (.int .i64 y.cls) ∧ v.cell? ⟨g, o + i * 6 + 1, none⟩ = some (.bool y.opn) ∧ v.cell? ⟨g, o + i * 6 + 2, none⟩ = some (.int .i64 y.wear) ∧ v.cell? ⟨g, o + i * 6 + 3, none⟩ = some (.int .u64 y.age) ∧ v.cell? ⟨g, o + i * 6 + 4, none⟩ = some (.int .i64 y.need) ∧ v.cell? ⟨g, o + i * 6 + 5, none⟩ = some (.bool y.held)) := Lib.hid fun v hv => (by
              have hk := HXB.out.below hv
              obtain ⟨z0, z1, z2, z3, z4, z5⟩ := inf_cells ((HL.out.below (keeps HV.out hv)).at_ i y HY.out).2
              exact ⟨hv, hk.cell 0, hk.cell 1, hk.cell 2, hk.cell 3, hk.cell 4, hk.cell 5, z0, z1, z2, z3, z4, z5⟩)
            refine wp_region_held_drew (S := fun v => Below V.heap.size V v ∧ v.cell? ⟨gb, 0, none⟩ = some (.int .i64 x.cls) ∧ v.cell? ⟨gb, 1, none⟩ = some (.bool x.opn) ∧ v.cell? ⟨gb, 2, none⟩ = some (.int .i64 x.wear) ∧ v.cell? ⟨gb, 3, none⟩ = some (.int .u64 x.age) ∧ v.cell? ⟨gb, 4, none⟩ = some (.int .i64 x.need) ∧ v.cell? ⟨gb, 5, none⟩ = some (.bool x.held) ∧ v.cell? ⟨g, o + i * 6, none⟩ = some (.int .i64 y.cls) ∧ v.cell? ⟨g, o + i * 6 + 1, none⟩ = some (.bool y.opn) ∧ v.cell? ⟨g, o + i * 6 + 2, none⟩ = some (.int .i64 y.wear) ∧ v.cell? ⟨g, o + i * 6 + 3, none⟩ = some (.int .u64 y.age) ∧ v.cell? ⟨g, o + i * 6 + 4, none⟩ = some (.int .i64 y.need) ∧ v.cell? ⟨g, o + i * 6 + 5, none⟩ = some (.bool y.held)) (by kernel_rfl) (RD.out _ (Below.drew (Below.refl _ _))) (fun hHeld => ?_)
            refine ho_val (v := ?_) 0 (some 19) rfl rfl (by kernel_rfl) (by kernel_rfl) (by kernel_rfl) (fun _ _ _ h => h) (by kernel_rfl) (fun w hSw => ?_) (by assumption) ?_
            rotate_left
            · ((try dsimp only at hSw); go_simp; try with_reducible rfl)
            simp only [Act.put, List.setIfInBounds_toArray, List.set_cons_zero, List.set_cons_succ]
            refine ho_val (v := ?_) 1 (some 20) rfl rfl (by kernel_rfl) (by kernel_rfl) (by kernel_rfl) (fun _ _ _ h => h) (by kernel_rfl) (fun w hSw => ?_) (by assumption) ?_
            rotate_left
            · ((try dsimp only at hSw); go_simp; try with_reducible rfl)
            simp only [Act.put, List.setIfInBounds_toArray, List.set_cons_zero, List.set_cons_succ]
            refine ho_step 2 (some 21) rfl rfl (by kernel_rfl) (by kernel_rfl) (fun K hK => ?_)
            go_simp
            (refine (tell_is HT.out HP.out HXM.out _ (keeps HV.out (And.left hHeld))).mono ?_; rintro e w5 ⟨rfl, hb5⟩; have hx5 : Below V.heap.size V w5 := keeps (And.left hHeld) hb5)
            try go_wp2_with fail
            refine hK.out _ _ (RD.out _ hx5) (fun hHeld2 => ?_)
            clear hHeld
            have hHeld := hHeld2
            clear hHeld2
            clear hK K
            try simp only [Act.put, List.setIfInBounds_toArray, List.set_cons_zero, List.set_cons_succ]
            refine ho_val (v := ?_) 3 (some 22) rfl rfl (by kernel_rfl) (by kernel_rfl) (by kernel_rfl) (fun _ _ _ h => h) (by kernel_rfl) (fun w hSw => ?_) (by assumption) ?_
            rotate_left
            · ((try dsimp only at hSw); go_simp; try with_reducible rfl)
            simp only [Act.put, List.setIfInBounds_toArray, List.set_cons_zero, List.set_cons_succ]
            refine ho_val (v := ?_) 4 (some 23) rfl rfl (by kernel_rfl) (by kernel_rfl) (by kernel_rfl) (fun _ _ _ h => h) (by kernel_rfl) (fun w hSw => ?_) (by assumption) ?_
            rotate_left
            · ((try dsimp only at hSw); go_simp; try with_reducible rfl)
            simp only [Act.put, List.setIfInBounds_toArray, List.set_cons_zero, List.set_cons_succ]
            refine ho_val (v := ?_) 5 (some 24) rfl rfl (by kernel_rfl) (by kernel_rfl) (by kernel_rfl) (fun _ _ _ h => h) (by kernel_rfl) (fun w hSw => ?_) (by assumption) ?_
            rotate_left
            · ((try dsimp only at hSw); go_simp; try with_reducible rfl)
            simp only [Act.put, List.setIfInBounds_toArray, List.set_cons_zero, List.set_cons_succ]
            refine ho_val (v := ?_) 6 (some 25) rfl rfl (by kernel_rfl) (by kernel_rfl) (by kernel_rfl) (fun _ _ _ h => h) (by kernel_rfl) (fun w hSw => ?_) (by assumption) ?_
            rotate_left
            · ((try dsimp only at hSw); go_simp; try with_reducible rfl)
            simp only [Act.put, List.setIfInBounds_toArray, List.set_cons_zero, List.set_cons_succ]
            refine ho_val (v := ?_) 7 (some 26) rfl rfl (by kernel_rfl) (by kernel_rfl) (by kernel_rfl) (fun _ _ _ h => h) (by kernel_rfl) (fun w hSw => ?_) (by assumption) ?_
            rotate_left
            · ((try dsimp only at hSw); go_simp; try with_reducible rfl)
            simp only [Act.put, List.setIfInBounds_toArray, List.set_cons_zero, List.set_cons_succ]
            refine ho_val (v := ?_) 8 (some 27) rfl rfl (by kernel_rfl) (by kernel_rfl) (by kernel_rfl) (fun _ _ _ h => h) (by kernel_rfl) (fun w hSw => ?_) (by assumption) ?_
            rotate_left
            · ((try dsimp only at hSw); go_simp; try with_reducible rfl)
            simp only [Act.put, List.setIfInBounds_toArray, List.set_cons_zero, List.set_cons_succ]
            refine ho_val (v := ?_) 9 (some 28) rfl rfl (by kernel_rfl) (by kernel_rfl) (by kernel_rfl) (fun _ _ _ h => h) (by kernel_rfl) (fun w hSw => ?_) (by assumption) ?_
            rotate_left
            · ((try dsimp only at hSw); go_simp; try with_reducible rfl)
            simp only [Act.put, List.setIfInBounds_toArray, List.set_cons_zero, List.set_cons_succ]
            refine ho_val (v := ?_) 10 (some 29) rfl rfl (by kernel_rfl) (by kernel_rfl) (by kernel_rfl) (fun _ _ _ h => h) (by kernel_rfl) (fun w hSw => ?_) (by assumption) ?_
            rotate_left
            · ((try dsimp only at hSw); go_simp; try with_reducible rfl)
            simp only [Act.put, List.setIfInBounds_toArray, List.set_cons_zero, List.set_cons_succ]
            refine ho_val (v := ?_) 11 (some 30) rfl rfl (by kernel_rfl) (by kernel_rfl) (by kernel_rfl) (fun _ _ _ h => h) (by kernel_rfl) (fun w hSw => ?_) (by assumption) ?_
            rotate_left
            · ((try dsimp only at hSw); go_simp; try with_reducible rfl)
            simp only [Act.put, List.setIfInBounds_toArray, List.set_cons_zero, List.set_cons_succ]
            refine ho_val (v := ?_) 12 (some 31) rfl rfl (by kernel_rfl) (by kernel_rfl) (by kernel_rfl) (fun _ _ _ h => h) (by kernel_rfl) (fun w hSw => ?_) (by assumption) ?_
            rotate_left
            · ((try dsimp only at hSw); go_simp; try with_reducible rfl)
            simp only [Act.put, List.setIfInBounds_toArray, List.set_cons_zero, List.set_cons_succ]
            refine ho_step 13 (some 32) rfl rfl (by kernel_rfl) (by kernel_rfl) (fun K hK => ?_)
            go_simp
            (refine (tell2_is HT2.out HP2.out _ (keeps HV.out (And.left hHeld))).mono ?_; rintro e w6 ⟨rfl, hb6⟩; have hx6 : Below V.heap.size V w6 := keeps (And.left hHeld) hb6)
            try go_wp2_with fail
            refine hK.out _ _ (RD.out _ hx6) (fun hHeld2 => ?_)
            clear hHeld
            have hHeld := hHeld2
            clear hHeld2
            clear hK K
            try simp only [Act.put, List.setIfInBounds_toArray, List.set_cons_zero, List.set_cons_succ]
            refine ho_val (v := ?_) 14 (some 33) rfl rfl (by kernel_rfl) (by kernel_rfl) (by kernel_rfl) (fun _ _ _ h => h) (by kernel_rfl) (fun w hSw => ?_) (by assumption) ?_
            rotate_left
            · ((try dsimp only at hSw); go_simp; try with_reducible rfl)
            simp only [Act.put, List.setIfInBounds_toArray, List.set_cons_zero, List.set_cons_succ]
            refine ho_val (v := ?_) 15 (some 34) rfl rfl (by kernel_rfl) (by kernel_rfl) (by kernel_rfl) (fun _ _ _ h => h) (by kernel_rfl) (fun w hSw => ?_) (by assumption) ?_
            rotate_left
            · ((try dsimp only at hSw); go_simp; try with_reducible rfl)
            simp only [Act.put, List.setIfInBounds_toArray, List.set_cons_zero, List.set_cons_succ]
            refine wpAnyH_done (by kernel_rfl) ?_ _
            have HZ := Lib.hid (keeps HV.out hHeld.1)
            clear hHeld RD
            go_wp2_with fail
            go_roundw
            case rel => exact ⟨k + 1, some (i, y), by omega, by go_num, rfl, rfl, Lib.hid (HB2.out), HZ.out⟩
            case measure => simp [intOf]; omega
          | true =>
            have HB2 : Hid (bestL p lt (L.take (k + 1)) = some (k, x)) := Lib.hid (by rw [HN.out, HB.out, if_pos (by simp [takes, hp, hq])])
            have HP2 := Lib.hid hq
            clear hq hy
            clear hp
            go_wp2_with ((with_reducible refine pick (some 18) ?_); refine wpList_load_mid rfl 29 _ rfl g (o + k * 6) rfl [.int .i64 x.cls, .bool x.opn, .int .i64 x.wear, .int .u64 x.age, .int .i64 x.need, .bool x.held] _ HC.out Try.underlying29 rfl info_inf6 ?_)
            obtain ⟨V, hV⟩ : ∃ V, wr.alloc (.cells #[.int .i64 x.cls, .bool x.opn, .int .i64 x.wear, .int .u64 x.age, .int .i64 x.need, .bool x.held] 29) = V := ⟨_, rfl⟩
            have HV1 := Lib.hid HV0.out
            rw [hV] at HV1 HXB0 ⊢
            have HV := Lib.hid HV1.out
            obtain ⟨gb, hgb⟩ : ∃ gb, wr.heap.size = gb := ⟨_, rfl⟩
            rw [hgb] at HXB0 ⊢
            have HXB := Lib.hid HXB0.out
            clear hV hgb HV0 HV1 HXB0
            have RD : Hid (∀ v, Below V.heap.size V v → Below V.heap.size V v ∧ v.cell? ⟨gb, 0, none⟩ = some (.int .i64 x.cls) ∧ v.cell? ⟨gb, 1, none⟩ = some (.bool x.opn) ∧ v.cell? ⟨gb, 2, none⟩ = some (.int .i64 x.wear) ∧ v.cell? ⟨gb, 3, none⟩ = some (.int .u64 x.age) ∧ v.cell? ⟨gb, 4, none⟩ = some (.int .i64 x.need) ∧ v.cell? ⟨gb, 5, none⟩ = some (.bool x.held) ∧ v.cell? ⟨g, o + i * 6, none⟩ = some (.int .i64 y.cls) ∧ v.cell? ⟨g, o + i * 6 + 1, none⟩ = some (.bool y.opn) ∧ v.cell? ⟨g, o + i * 6 + 2, none⟩ = some (.int .i64 y.wear) ∧ v.cell? ⟨g, o + i * 6 + 3, none⟩ = some (.int .u64 y.age) ∧ v.cell? ⟨g, o + i * 6 + 4, none⟩ = some (.int .i64 y.need) ∧ v.cell? ⟨g, o + i * 6 + 5, none⟩ = some (.bool y.held)) := Lib.hid fun v hv => (by
              have hk := HXB.out.below hv
              obtain ⟨z0, z1, z2, z3, z4, z5⟩ := inf_cells ((HL.out.below (keeps HV.out hv)).at_ i y HY.out).2
              exact ⟨hv, hk.cell 0, hk.cell 1, hk.cell 2, hk.cell 3, hk.cell 4, hk.cell 5, z0, z1, z2, z3, z4, z5⟩)
            refine wp_region_held_drew (S := fun v => Below V.heap.size V v ∧ v.cell? ⟨gb, 0, none⟩ = some (.int .i64 x.cls) ∧ v.cell? ⟨gb, 1, none⟩ = some (.bool x.opn) ∧ v.cell? ⟨gb, 2, none⟩ = some (.int .i64 x.wear) ∧ v.cell? ⟨gb, 3, none⟩ = some (.int .u64 x.age) ∧ v.cell? ⟨gb, 4, none⟩ = some (.int .i64 x.need) ∧ v.cell? ⟨gb, 5, none⟩ = some (.bool x.held) ∧ v.cell? ⟨g, o + i * 6, none⟩ = some (.int .i64 y.cls) ∧ v.cell? ⟨g, o + i * 6 + 1, none⟩ = some (.bool y.opn) ∧ v.cell? ⟨g, o + i * 6 + 2, none⟩ = some (.int .i64 y.wear) ∧ v.cell? ⟨g, o + i * 6 + 3, none⟩ = some (.int .u64 y.age) ∧ v.cell? ⟨g, o + i * 6 + 4, none⟩ = some (.int .i64 y.need) ∧ v.cell? ⟨g, o + i * 6 + 5, none⟩ = some (.bool y.held)) (by kernel_rfl) (RD.out _ (Below.drew (Below.refl _ _))) (fun hHeld => ?_)
            refine ho_val (v := ?_) 0 (some 19) rfl rfl (by kernel_rfl) (by kernel_rfl) (by kernel_rfl) (fun _ _ _ h => h) (by kernel_rfl) (fun w hSw => ?_) (by assumption) ?_
            rotate_left
            · ((try dsimp only at hSw); go_simp; try with_reducible rfl)
            simp only [Act.put, List.setIfInBounds_toArray, List.set_cons_zero, List.set_cons_succ]
            refine ho_val (v := ?_) 1 (some 20) rfl rfl (by kernel_rfl) (by kernel_rfl) (by kernel_rfl) (fun _ _ _ h => h) (by kernel_rfl) (fun w hSw => ?_) (by assumption) ?_
            rotate_left
            · ((try dsimp only at hSw); go_simp; try with_reducible rfl)
            simp only [Act.put, List.setIfInBounds_toArray, List.set_cons_zero, List.set_cons_succ]
            refine ho_step 2 (some 21) rfl rfl (by kernel_rfl) (by kernel_rfl) (fun K hK => ?_)
            go_simp
            (refine (tell_is HT.out HP.out HXM.out _ (keeps HV.out (And.left hHeld))).mono ?_; rintro e w5 ⟨rfl, hb5⟩; have hx5 : Below V.heap.size V w5 := keeps (And.left hHeld) hb5)
            try go_wp2_with fail
            refine hK.out _ _ (RD.out _ hx5) (fun hHeld2 => ?_)
            clear hHeld
            have hHeld := hHeld2
            clear hHeld2
            clear hK K
            try simp only [Act.put, List.setIfInBounds_toArray, List.set_cons_zero, List.set_cons_succ]
            refine ho_val (v := ?_) 3 (some 22) rfl rfl (by kernel_rfl) (by kernel_rfl) (by kernel_rfl) (fun _ _ _ h => h) (by kernel_rfl) (fun w hSw => ?_) (by assumption) ?_
            rotate_left
            · ((try dsimp only at hSw); go_simp; try with_reducible rfl)
            simp only [Act.put, List.setIfInBounds_toArray, List.set_cons_zero, List.set_cons_succ]
            refine ho_val (v := ?_) 4 (some 23) rfl rfl (by kernel_rfl) (by kernel_rfl) (by kernel_rfl) (fun _ _ _ h => h) (by kernel_rfl) (fun w hSw => ?_) (by assumption) ?_
            rotate_left
            · ((try dsimp only at hSw); go_simp; try with_reducible rfl)
            simp only [Act.put, List.setIfInBounds_toArray, List.set_cons_zero, List.set_cons_succ]
            refine ho_val (v := ?_) 5 (some 24) rfl rfl (by kernel_rfl) (by kernel_rfl) (by kernel_rfl) (fun _ _ _ h => h) (by kernel_rfl) (fun w hSw => ?_) (by assumption) ?_
            rotate_left
            · ((try dsimp only at hSw); go_simp; try with_reducible rfl)
            simp only [Act.put, List.setIfInBounds_toArray, List.set_cons_zero, List.set_cons_succ]
            refine ho_val (v := ?_) 6 (some 25) rfl rfl (by kernel_rfl) (by kernel_rfl) (by kernel_rfl) (fun _ _ _ h => h) (by kernel_rfl) (fun w hSw => ?_) (by assumption) ?_
            rotate_left
            · ((try dsimp only at hSw); go_simp; try with_reducible rfl)
            simp only [Act.put, List.setIfInBounds_toArray, List.set_cons_zero, List.set_cons_succ]
            refine ho_val (v := ?_) 7 (some 26) rfl rfl (by kernel_rfl) (by kernel_rfl) (by kernel_rfl) (fun _ _ _ h => h) (by kernel_rfl) (fun w hSw => ?_) (by assumption) ?_
            rotate_left
            · ((try dsimp only at hSw); go_simp; try with_reducible rfl)
            simp only [Act.put, List.setIfInBounds_toArray, List.set_cons_zero, List.set_cons_succ]
            refine ho_val (v := ?_) 8 (some 27) rfl rfl (by kernel_rfl) (by kernel_rfl) (by kernel_rfl) (fun _ _ _ h => h) (by kernel_rfl) (fun w hSw => ?_) (by assumption) ?_
            rotate_left
            · ((try dsimp only at hSw); go_simp; try with_reducible rfl)
            simp only [Act.put, List.setIfInBounds_toArray, List.set_cons_zero, List.set_cons_succ]
            refine ho_val (v := ?_) 9 (some 28) rfl rfl (by kernel_rfl) (by kernel_rfl) (by kernel_rfl) (fun _ _ _ h => h) (by kernel_rfl) (fun w hSw => ?_) (by assumption) ?_
            rotate_left
            · ((try dsimp only at hSw); go_simp; try with_reducible rfl)
            simp only [Act.put, List.setIfInBounds_toArray, List.set_cons_zero, List.set_cons_succ]
            refine ho_val (v := ?_) 10 (some 29) rfl rfl (by kernel_rfl) (by kernel_rfl) (by kernel_rfl) (fun _ _ _ h => h) (by kernel_rfl) (fun w hSw => ?_) (by assumption) ?_
            rotate_left
            · ((try dsimp only at hSw); go_simp; try with_reducible rfl)
            simp only [Act.put, List.setIfInBounds_toArray, List.set_cons_zero, List.set_cons_succ]
            refine ho_val (v := ?_) 11 (some 30) rfl rfl (by kernel_rfl) (by kernel_rfl) (by kernel_rfl) (fun _ _ _ h => h) (by kernel_rfl) (fun w hSw => ?_) (by assumption) ?_
            rotate_left
            · ((try dsimp only at hSw); go_simp; try with_reducible rfl)
            simp only [Act.put, List.setIfInBounds_toArray, List.set_cons_zero, List.set_cons_succ]
            refine ho_val (v := ?_) 12 (some 31) rfl rfl (by kernel_rfl) (by kernel_rfl) (by kernel_rfl) (fun _ _ _ h => h) (by kernel_rfl) (fun w hSw => ?_) (by assumption) ?_
            rotate_left
            · ((try dsimp only at hSw); go_simp; try with_reducible rfl)
            simp only [Act.put, List.setIfInBounds_toArray, List.set_cons_zero, List.set_cons_succ]
            refine ho_step 13 (some 32) rfl rfl (by kernel_rfl) (by kernel_rfl) (fun K hK => ?_)
            go_simp
            (refine (tell2_is HT2.out HP2.out _ (keeps HV.out (And.left hHeld))).mono ?_; rintro e w6 ⟨rfl, hb6⟩; have hx6 : Below V.heap.size V w6 := keeps (And.left hHeld) hb6)
            try go_wp2_with fail
            refine hK.out _ _ (RD.out _ hx6) (fun hHeld2 => ?_)
            clear hHeld
            have hHeld := hHeld2
            clear hHeld2
            clear hK K
            try simp only [Act.put, List.setIfInBounds_toArray, List.set_cons_zero, List.set_cons_succ]
            refine ho_val (v := ?_) 14 (some 33) rfl rfl (by kernel_rfl) (by kernel_rfl) (by kernel_rfl) (fun _ _ _ h => h) (by kernel_rfl) (fun w hSw => ?_) (by assumption) ?_
            rotate_left
            · ((try dsimp only at hSw); go_simp; try with_reducible rfl)
            simp only [Act.put, List.setIfInBounds_toArray, List.set_cons_zero, List.set_cons_succ]
            refine ho_val (v := ?_) 15 (some 34) rfl rfl (by kernel_rfl) (by kernel_rfl) (by kernel_rfl) (fun _ _ _ h => h) (by kernel_rfl) (fun w hSw => ?_) (by assumption) ?_
            rotate_left
            · ((try dsimp only at hSw); go_simp; try with_reducible rfl)
            simp only [Act.put, List.setIfInBounds_toArray, List.set_cons_zero, List.set_cons_succ]
            refine wpAnyH_done (by kernel_rfl) ?_ _
            have HZ := Lib.hid (keeps HV.out hHeld.1)
            clear hHeld RD
            go_wp2_with fail
            go_roundw
            case rel => exact ⟨k + 1, some (k, x), by omega, by go_num, rfl, rfl, Lib.hid (HB2.out), HZ.out⟩
            case measure => simp [intOf]; omega
    · obtain rfl : k = n := by omega
      have HBL := Lib.hid hbel
      have e : bestL p lt L = B := by rw [← HB.out, List.take_of_length_le (by rw [HL.out.1]; exact Nat.le_refl _)]
      clear hbel
      go_wp2_with fail
      go_ret2
      rw [e]
      exact ⟨rfl, HBL.out⟩
end Go.Proofs.Ythpgpomkilnlgaa.PickV
