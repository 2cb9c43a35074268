/- The contracts of the document's Save, Hang and List of layer 17, over rows of pairs. -/
import Derived.Test.YtbdokofdbeccdaaDoorWalkM
import Derived.Test.YtbdokofdbeccdaaDoorNodeR
import Derived.Test.YtbdokofdbeccdaaDoorTreeR
import Derived.Test.YtbdokofdbeccdaaDoorTx
import Derived.Test.YtbdokofdbeccdaaDoorHo
namespace Go.Proofs.YtbdokofdbeccdaaDoor.WalkR
set_option linter.unusedVariables false
set_option linter.unusedSimpArgs false
open Go.RowKit
open Go.Proofs.YtbdokofdbeccdaaDoor.Byte Go.Proofs.YtbdokofdbeccdaaDoor.PackM Go.Proofs.YtbdokofdbeccdaaDoor.PackS Go.Proofs.YtbdokofdbeccdaaDoor.KeysM Go.Proofs.YtbdokofdbeccdaaDoor.KeysR Go.Proofs.YtbdokofdbeccdaaDoor.KeysS Go.Proofs.YtbdokofdbeccdaaDoor.TreeM Go.Proofs.YtbdokofdbeccdaaDoor.NodeM Go.Proofs.YtbdokofdbeccdaaDoor.NodeR Go.Proofs.YtbdokofdbeccdaaDoor.WalkM Go.Proofs.YtbdokofdbeccdaaDoor.Lst Go.Proofs.YtbdokofdbeccdaaDoor.Tx Go.Proofs.YtbdokofdbeccdaaDoor.Ho
open Go.Proofs.YtbdokofdbeccdaaDoor.Own hiding keeps
open Go.Proofs.YtbdokofdbeccdaaDoor.TreeR
open Go.Proofs.YtbdokofdbeccdaaDoor.PackV hiding Made Made.of

set_option maxRecDepth 100000 in
set_option maxHeartbeats 4000000 in
theorem refsave_calls (A : Option Addr) (n c : Nat) (L : List Pr) (ino k l s p : Int) (w : World) (hl : Sl prE w A n L) (hn : n ≤ 1000) (hr : Rise L) (i0 : 0 ≤ ino) (i1 : ino ≤ 4294967295) (k0 : 0 ≤ k) (k1 : k ≤ 255) (l0 : 0 ≤ l) (l1 : l ≤ 4294967295) (s0 : 0 ≤ s) (s1 : s ≤ 4294967295) (p0 : 0 ≤ p) (p1 : p ≤ 4294967295) :
    Calls Tryd.prog 21 #[.slice A n c, .int .u32 ino, .agg #[.int .u8 k, .int .u32 l, .int .u32 s, .int .u32 p]] w (Made (putL (kI ino) (nput k l s p) L) w) := by
  have HI := Lib.hid (fun w => refI_calls ino w i0 i1)
  have HP := Lib.hid (fun w => refput_all k l s p w k0 k1 l0 l1 s0 s1 p0 p1)
  obtain ⟨W, hW⟩ : ∃ W, w.alloc (.cells #[.int .u8 k, .int .u32 l, .int .u32 s, .int .u32 p] 32) = W := ⟨_, rfl⟩
  have HW := Lib.hid hW
  have HX := Lib.hid (show Blk W w.heap.size #[.int .u8 k, .int .u32 l, .int .u32 s, .int .u32 p] 32 from hW ▸ Blk.new_ w _ _)
  have HB := Lib.hid (show Below w.heap.size w W from hW ▸ (Below.refl _ _).alloc (Nat.le_refl _) _)
  have HS := Lib.hid (fun v (hv : Below W.heap.size W v) => refset_calls A n c L (kI ino) (nput k l s p) v ((hl.below HB.out).below hv) (by omega) hr)
  generalize hq : kI ino = q at *
  generalize hq2 : nput k l s p = q2 at *
  clear hW hl hr hq hq2
  have RD : Hid (∀ v, Below W.heap.size W v → Below W.heap.size W v ∧ v.cell? ⟨w.heap.size, 0, none⟩ = some (.int .u8 k) ∧ v.cell? ⟨w.heap.size, 1, none⟩ = some (.int .u32 l) ∧ v.cell? ⟨w.heap.size, 2, none⟩ = some (.int .u32 s) ∧ v.cell? ⟨w.heap.size, 3, none⟩ = some (.int .u32 p)) := Lib.hid (fun v hv => by
    have hx := HX.out.below hv
    exact ⟨hv, hx.cell 0, hx.cell 1, hx.cell 2, hx.cell 3⟩)
  go_enter Tryd.func21, Tryd.ntmps21
  go_wp2_with fail
  rw [HW.out]
  refine wp_region_held_drew (S := fun v => Below W.heap.size W v ∧ v.cell? ⟨w.heap.size, 0, none⟩ = some (.int .u8 k) ∧ v.cell? ⟨w.heap.size, 1, none⟩ = some (.int .u32 l) ∧ v.cell? ⟨w.heap.size, 2, none⟩ = some (.int .u32 s) ∧ v.cell? ⟨w.heap.size, 3, none⟩ = some (.int .u32 p)) (by kernel_rfl) (RD.out W.drew ((Below.refl _ _).drew)) (fun hHeld => ?_)
  refine ho_val (v := ?_) 0 (some 7) rfl rfl (by kernel_rfl) (by kernel_rfl) (by kernel_rfl) (fun _ _ _ h => h) (by kernel_rfl) (fun w hSw => ?_) (by assumption) ?_
  rotate_left
  · ((try dsimp only at hSw); go_simp; try with_reducible rfl)
  simp only [Act.put, List.setIfInBounds_toArray, List.set_cons_zero, List.set_cons_succ]
  refine ho_val (v := ?_) 1 (some 8) rfl rfl (by kernel_rfl) (by kernel_rfl) (by kernel_rfl) (fun _ _ _ h => h) (by kernel_rfl) (fun w hSw => ?_) (by assumption) ?_
  rotate_left
  · ((try dsimp only at hSw); go_simp; try with_reducible rfl)
  simp only [Act.put, List.setIfInBounds_toArray, List.set_cons_zero, List.set_cons_succ]
  refine ho_val (v := ?_) 3 (some 10) rfl rfl (by kernel_rfl) (by kernel_rfl) (by kernel_rfl) (fun _ _ _ h => h) (by kernel_rfl) (fun w hSw => ?_) (by assumption) ?_
  rotate_left
  · ((try dsimp only at hSw); go_simp; try with_reducible rfl)
  simp only [Act.put, List.setIfInBounds_toArray, List.set_cons_zero, List.set_cons_succ]
  refine ho_step 2 (some 9) rfl rfl (by kernel_rfl) (by kernel_rfl) (fun K hK => ?_)
  go_simp
  refine (HI.out _).mono ?_
  rintro e v1 ⟨rfl, hv1⟩
  try go_wp2_with fail
  refine hK.out _ _ (RD.out _ (hHeld.1.trans (hv1.mono hHeld.1.size))) (fun hHeld2 => ?_)
  clear hHeld
  have hHeld := hHeld2
  clear hHeld2
  clear hK K
  try simp only [Act.put, List.setIfInBounds_toArray, List.set_cons_zero, List.set_cons_succ]
  refine ho_step 4 (some 11) rfl rfl (by kernel_rfl) (by kernel_rfl) (fun K hK => ?_)
  go_simp
  refine (HP.out _).mono ?_
  rintro e v1 ⟨rfl, hv1⟩
  try go_wp2_with fail
  refine hK.out _ _ (RD.out _ (hHeld.1.trans (hv1.mono hHeld.1.size))) (fun hHeld2 => ?_)
  clear hHeld
  have hHeld := hHeld2
  clear hHeld2
  clear hK K
  try simp only [Act.put, List.setIfInBounds_toArray, List.set_cons_zero, List.set_cons_succ]
  refine ho_step 5 (some 12) rfl rfl (by kernel_rfl) (by kernel_rfl) (fun K hK => ?_)
  go_simp
  refine (HS.out _ hHeld.1).mono ?_
  rintro e v1 ⟨vv, rfl, hso, hv1⟩
  have HSO := Lib.hid (hso.lower (Nat.le_trans HB.out.size hHeld.1.size))
  have HV1 := Lib.hid (hHeld.1.trans (hv1.mono hHeld.1.size))
  try go_wp2_with fail
  refine hK.out _ _ (RD.out _ (hHeld.1.trans (hv1.mono hHeld.1.size))) (fun hHeld2 => ?_)
  clear hHeld
  have hHeld := hHeld2
  clear hHeld2
  clear hK K
  try simp only [Act.put, List.setIfInBounds_toArray, List.set_cons_zero, List.set_cons_succ]
  refine ho_val (v := ?_) 6 (some 6) rfl rfl (by kernel_rfl) (by kernel_rfl) (by kernel_rfl) (fun _ _ _ h => h) (by kernel_rfl) (fun w hSw => ?_) (by assumption) ?_
  rotate_left
  · ((try dsimp only at hSw); go_simp; try with_reducible rfl)
  simp only [Act.put, List.setIfInBounds_toArray, List.set_cons_zero, List.set_cons_succ]
  refine wpAnyH_done (by kernel_rfl) ?_ _
  clear hHeld RD
  go_wp2_with fail
  go_ret
  exact ⟨vv, rfl, HSO.out, keeps HB.out HV1.out⟩
set_option maxRecDepth 100000 in
set_option maxHeartbeats 4000000 in
theorem refhang_calls (A : Option Addr) (n c : Nat) (L : List Pr) (dir ino : Int) (name : ByteArray) (w : World) (hl : Sl prE w A n L) (hn : n ≤ 1000) (hr : Rise L) (d0 : 0 ≤ dir) (d1 : dir ≤ 4294967295) (i0 : 0 ≤ ino) (i1 : ino ≤ 4294967295) (hnm : name.size ≤ 100000) :
    Calls Tryd.prog 23 #[.slice A n c, .int .u32 dir, .string name, .int .u32 ino] w (Made (putL (kE dir name) (hangV ino) L) w) := by
  have HE := Lib.hid (fun w => refE_calls dir name w (by unfold maxLen; omega) d0 d1)
  have HL := Lib.hid hl
  have HS := Lib.hid (fun v q (hv : Sl prE v A n L) => refset_calls A n c L (kE dir name) q v hv (by omega) hr)
  have HP := Lib.hid (fun (w : World) (g : Nat) => refput_calls (some ⟨g, 0, none⟩) 0 0 [] 4 ino w (Bs.nil_ _ _) (fun e => by cases e) (by omega) (by omega) (by omega) i0 (by omega))
  rw [show ([] : List Int) ++ low (width 4) ino = low 4 ino from rfl] at HP
  have HV : Hid (str (low 4 ino) = hangV ino) := Lib.hid rfl
  have L4 := Lib.hid (low_len 4 ino)
  generalize hq : kE dir name = q at *
  generalize hq2 : hangV ino = q2 at *
  generalize hq3 : low 4 ino = z at *
  clear hl hr hq hq2 hq3
  go_enter Tryd.func23, Tryd.ntmps23
  go_wp2_with fail
  refine (HE.out _).mono ?_
  rintro e w1 ⟨rfl, hb1⟩
  have HB1 := Lib.hid (hb1.alloc hb1.size (.cells #[] 5))
  clear hb1
  go_wp2_with fail
  refine (HP.out _ _).mono ?_
  intro e w2 hm
  obtain ⟨g2, c2, rfl, ho2, hb2⟩ := PackV.Made.at_ hm L4.out
  have hs := ho2.str_ (P := Tryd.prog) 67 9 Tryd.underlying67 Tryd.underlying5 Tryd.underlying9
  rw [HV.out] at hs
  have HB2 := Lib.hid (keeps HB1.out hb2)
  clear hm ho2 hb2
  go_wp2_with fail
  refine (HS.out _ _ (HL.out.below HB2.out)).mono ?_
  rintro e w3 ⟨vv, rfl, hso, hb3⟩
  have HSO := Lib.hid (hso.lower HB2.out.size)
  have HB3 := Lib.hid (keeps HB2.out hb3)
  clear hso hb3
  go_wp2_with fail
  go_ret
  exact ⟨vv, rfl, HSO.out, HB3.out⟩
theorem ent_t {dir : Int} {p : Pr} (h : entB dir p = true) : ((sp p.key).letter == 69) = true ∧ ((sp p.key).ino == dir) = true := by
  unfold entB at h
  simpa using h
theorem ent_f {dir : Int} {p : Pr} (h : entB dir p = false) : ((sp p.key).letter == 69) = false ∨ (((sp p.key).letter == 69) = true ∧ ((sp p.key).ino == dir) = false) := by
  unfold entB at h
  cases h1 : (sp p.key).letter == 69 with
  | false => exact .inl rfl
  | true =>
    right
    rw [beq_iff_eq] at h1
    rw [decide_eq_true h1, Bool.true_and] at h
    exact ⟨rfl, by rw [beq_eq_false_iff_ne]; exact of_decide_eq_false h⟩
/-- The names, in a new row. -/
def Names (L : List ByteArray) (w : World) (e : Ending) (w' : World) : Prop := ∃ A m c, e = .returned (.slice A m c) ∧ So txE 9 w' w.heap.size (.slice A m c) m L ∧ Below w.heap.size w w'
set_option maxRecDepth 100000 in
set_option maxHeartbeats 4000000 in
theorem reflist_calls (A : Option Addr) (n c : Nat) (L : List Pr) (dir : Int) (w : World) (hl : Sl prE w A n L) (hn : n ≤ 1000) (hk : ∀ p ∈ L, p.key.size ≤ 140737488355328) :
    Calls Tryd.prog 14 #[.slice A n c, .int .u32 dir] w (Names (listM dir L) w) := by
  have HL := Lib.hid hl
  have HK := Lib.hid hk
  clear hl hk
  go_enter Tryd.func14, Tryd.ntmps14
  go_wp2
  go_loopw [5, 14] (fun v i wr => ∃ (A' : Option Addr) (m c' k : Nat) (M : List ByteArray), v = .slice A' m c' ∧ i = .int .i64 k ∧ k ≤ n ∧ m ≤ k ∧ So txE 9 wr w.heap.size (.slice A' m c') m M ∧ Hid (M = listM dir (L.take k)) ∧ Below w.heap.size w wr) (fun _ i _ => n - (intOf i).toNat)
  case atStart => exact ⟨_, 0, 0, 0, [], rfl, rfl, Nat.zero_le _, Nat.le_refl _, So.new_ txE _ w (Nat.le_refl _), Lib.hid rfl, (Below.refl _ _).alloc (Nat.le_refl _) _⟩
  case round =>
    obtain ⟨A', m, c', k, M, rfl, rfl, hk, hmk, hso, HM, hbel⟩ := hrel
    by_cases hlt : k < n
    · obtain ⟨x, g, o, hx, rfl, hg, hcl⟩ := (HL.out.below hbel).get k hlt
      obtain ⟨c1, _, _⟩ := pair_cells hcl
      have HNX := Lib.hid (list_next hx dir)
      have HSP := Lib.hid (fun w => refsplit_calls x.key w (HK.out x (List.mem_of_getElem? hx)))
      unfold SpE at HSP
      have HSO := Lib.hid hso
      have HBL := Lib.hid hbel
      clear hcl hx hso hbel
      cases hb : entB dir x with
      | true =>
        obtain ⟨e1, e2⟩ := ent_t hb
        have HN2 : Hid (M ++ [(sp x.key).name] = listM dir (L.take (k + 1))) := Lib.hid (by rw [HNX.out, hb, if_pos rfl, HM.out])
        clear HNX hb
        generalize (sp x.key).letter = X1 at *
        generalize (sp x.key).ino = X2 at *
        generalize (sp x.key).name = X3 at *
        generalize (sp x.key).n = X4 at *
        go_wp2_with (first
          | (go_at_call 34; refine (HSP.out _).mono ?_; rintro e w2 ⟨rfl, hb2⟩; have HB2 := Lib.hid (keeps HBL.out hb2); have HSO2 := Lib.hid (HSO.out.below hb2); clear hb2)
          | ((with_reducible refine pick (some 38) ?_); refine wpList_append_lst txE 9 rfl _ _ _ rfl Tryd.underlying40 info_tx rfl w.heap.size _ m M rfl (HSO2.out.below ((Below.refl _ _).alloc (Nat.le_refl _) _)) _ 0 1 1 [X3] rfl (Sl.new_ txE _ _ X3 _ rfl) (m + 1) rfl _ rfl (by unfold maxLen; omega) (by omega) (by have := HB2.out.size; simp; omega) ?_; intro v' w' hown' hg' hat' _; obtain ⟨A3, c3, rfl, _⟩ := So.head hown'))
        have hal := HB2.out.alloc HB2.out.size (.cells #[.string X3] 9)
        have HBB : Hid (Below w.heap.size w w') := Lib.hid (hal.grown hg' hal.size (fun k hk => (HSO2.out.lt hk).1))
        clear hal
        go_roundw
        case rel => exact ⟨A3, m + 1, c3, k + 1, _, rfl, by go_num, by omega, by omega, hown', HN2, HBB.out⟩
        case measure => simp [intOf]; omega
      | false =>
        have hef := ent_f hb
        have HN2 : Hid (M = listM dir (L.take (k + 1))) := Lib.hid (by rw [HNX.out, hb, if_neg (by decide), HM.out, List.append_nil])
        clear HNX hb
        generalize (sp x.key).letter = X1 at *
        generalize (sp x.key).ino = X2 at *
        generalize (sp x.key).name = X3 at *
        generalize (sp x.key).n = X4 at *
        rcases hef with e1 | ⟨e1, e2⟩
        all_goals
          go_wp2_with (go_at_call 34; refine (HSP.out _).mono ?_; rintro e w2 ⟨rfl, hb2⟩; have HB2 := Lib.hid (keeps HBL.out hb2); have HSO2 := Lib.hid (HSO.out.below hb2); clear hb2)
          go_roundw
          case rel => exact ⟨A', m, c', k + 1, _, rfl, by go_num, by omega, by omega, HSO2.out, HN2, HB2.out⟩
          case measure => simp [intOf]; omega
    · obtain rfl : k = n := by omega
      have hL : L.take k = L := List.take_of_length_le (by rw [HL.out.1]; exact Nat.le_refl _)
      have HM2 : Hid (M = listM dir L) := Lib.hid (by rw [HM.out, hL])
      have HSO := Lib.hid hso
      clear hL HM hso
      go_wp2
      go_ret
      exact ⟨A', m, c', rfl, HM2.out ▸ HSO.out, hbel⟩
end Go.Proofs.YtbdokofdbeccdaaDoor.WalkR
