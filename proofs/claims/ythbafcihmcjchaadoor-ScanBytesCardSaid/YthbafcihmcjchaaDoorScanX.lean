/- Layer 8's law's bytes, without parts, and its fixed. -/
import Derived.Test.YthbafcihmcjchaaDoorScanB
import Derived.Test.YthbafcihmcjchaaDoorRecF
import Derived.Lib.AppendStr
namespace Go.Proofs.YthbafcihmcjchaaDoor.ScanX
set_option linter.unusedVariables false
set_option linter.unusedSimpArgs false
open Go.RowKit
open Go.Proofs.YthbafcihmcjchaaDoor.Byte Go.Proofs.YthbafcihmcjchaaDoor.RecM Go.Proofs.YthbafcihmcjchaaDoor.RecF Go.Proofs.YthbafcihmcjchaaDoor.HeadM Go.Proofs.YthbafcihmcjchaaDoor.ScanM Go.Proofs.YthbafcihmcjchaaDoor.ScanO Go.Proofs.YthbafcihmcjchaaDoor.ScanB Go.Proofs.YthbafcihmcjchaaDoor.Own

theorem info8 : (Tryd.prog.info? 5).map (fun i => (i.zero, i.size, i.bytes)) = some (some (.int .u8 0), 1, 1) := by kernel_rfl
theorem wpList_append_str_nil {w : World} {P : Program} {ops : Array Oper} {rest : List Oper} {o : Oper} {a : Act} {Q : Exit → Act → World → Prop} (hgd : o.guard = none) (s x : Operand) (t u : TypeId)
    (ho : o.op = .call { callee := .builtin .append, args := #[s, x], argTypes := #[t, u] })
    (base : Nat) (e : TypeId) (ht : P.underlying t = some (.slice e)) (hu : P.underlying u = some .string) (hinfo : (P.info? e).map (fun i => (i.zero, i.size, i.bytes)) = some (some (.int .u8 0), 1, 1))
    (hs : a.eval s = .slice none 0 0) (y : ByteArray) (hx : a.eval x = .string y) (N : Nat) (hN : y.size = N) (h0 : 0 < N) (h63 : N ≤ 140737488355328) (hbase : base ≤ w.heap.size)
    (h : ∀ g' cap' w', Ob w' base e g' N cap' (txt y) → w.grownBy w' none → wpList P ops Q rest (a.put o.dst (.slice (some ⟨g', 0, none⟩) N cap')) w') :
    wpList P ops Q (o :: rest) a w := by
  subst hN
  obtain ⟨i, hi, hz0, hz1, hz2⟩ := info_parts hinfo
  refine Lib.wpList_append_own_string w hgd s x t u ho base e i ht hu hi hz0 hz1 hz2 _ 0 [] hs (World.ownsRow_nil _ _ _ _) y hx (by simp only [maxLen]; omega) (by omega) hbase ?_
  intro v' w' hown' hg hnil
  rw [Nat.zero_add] at hown'
  obtain ⟨g', cap', rfl⟩ : ∃ g' cap', v' = .slice (some ⟨g', 0, none⟩) y.size cap' := by
    rcases hown'.2 with ⟨rfl, h1⟩ | ⟨g', cap', _, rfl, _⟩
    · omega
    · exact ⟨g', cap', rfl⟩
  exact h g' cap' w' ⟨txt_len y, txt_bd y, by rw [← strCells_txt]; simpa using hown'⟩ hg
/-- A head, and 255 behind it, as far as it stands. -/
def hdz (n : Int) (z j : Nat) : List Int := hd n z ++ List.replicate (j - 8) 255
theorem hdz_len (n : Int) (z j : Nat) (h : 8 ≤ j) : (hdz n z j).length = j := by unfold hdz; rw [List.length_append, hd_len, List.length_replicate]; omega
theorem hdz_next (n : Int) (z j : Nat) (h : 8 ≤ j) : hdz n z j ++ [255] = hdz n z (j + 1) := by unfold hdz; rw [List.append_assoc, show j + 1 - 8 = (j - 8) + 1 by omega, List.replicate_succ']
def lenOf (v : Value) : Nat := match v with | .slice _ n _ => n | _ => 0
set_option maxRecDepth 100000 in
set_option maxHeartbeats 2000000 in
theorem bytes_calls (n : Int) (z : Nat) (w : World) (hm : MayM.may n z = true) : Calls Tryd.prog 9 #[.agg #[.int .i64 n, .int .i64 z], .bool true, .slice none 0 0] w fun e w' => ∃ g cap, e = .returned (.slice (some ⟨g, 0, none⟩) z cap) ∧ z ≤ cap ∧ Bs w' (some ⟨g, 0, none⟩) z (hdz n z z) ∧ Below w.heap.size w w' := by
  have hz := MayM.may_yes hm
  have RO := Lib.hid (fun w => HeadR.refof_calls n z w)
  obtain ⟨y, hy⟩ : ∃ y, str (hd n z) = y := ⟨_, rfl⟩
  rw [hy] at RO
  have hyl : y.size = 8 := by rw [← hy, str_size, hd_len]
  have HYL := Lib.hid hyl
  have HY : Hid (txt y = hdz n z 8) := Lib.hid (by rw [← hy, txt_str _ (hd_bd n z)]; unfold hdz; simp)
  clear hm hy hyl
  obtain ⟨W, hW⟩ : ∃ W, w.alloc (.cells #[.int .i64 n, .int .i64 z] 23) = W := ⟨_, rfl⟩
  have hbW : Below w.heap.size w W := by rw [← hW]; exact (Below.refl _ _).alloc (Nat.le_refl _) _
  have hA : Blk W w.heap.size #[.int .i64 n, .int .i64 z] 23 := by rw [← hW]; exact Blk.new_ _ _ _
  have HA := Lib.hid hA
  have HBW := Lib.hid hbW
  have HW := Lib.hid hW
  have hAl := hA.lt
  clear hW hbW hA
  go_enter Tryd.func9, Tryd.ntmps9
  go_wp2_with fail
  rw [HW.out]
  refine (RO.out _).mono ?_
  rintro e w1 ⟨rfl, hb1⟩
  have HA1 := Lib.hid (HA.out.below hb1)
  have HB1 := Lib.hid (keeps HBW.out hb1)
  have hz1 := hb1.size
  clear hb1
  go_wp2_with ((with_reducible refine pick (some 16) ?_); refine wpList_append_str_nil rfl _ _ _ _ rfl (w.heap.size + 1) 5 Tryd.underlying24 Tryd.underlying9 info8 rfl y rfl 8 HYL.out (by omega) (by omega) (by omega) ?_; intro g2 cap2 w2 ho2 hg2)
  have HA2 : Hid (Blk w2 w.heap.size #[.int .i64 n, .int .i64 z] 23) := Lib.hid (blk_grown HA1.out hg2 (by simp))
  have hb2 : Below w.heap.size w w2 := HB1.out.grown hg2 HB1.out.size (by intro k hk; cases hk)
  have HB2 := Lib.hid hb2
  rw [HY.out] at ho2
  have HO2 := Lib.hid ho2
  clear ho2 hg2 hb2
  go_wp2_with fail
  go_loopw [7, 19] (fun u i wr => u = .slice (some ⟨g2, 0, none⟩) 8 cap2 ∧ i = .int .i64 0 ∧ w2 = wr) (fun _ _ _ => 0)
  case atStart => exact ⟨rfl, rfl, rfl⟩
  case round =>
    obtain ⟨rfl, rfl, rfl⟩ := hrel
    go_wp2_with fail
    go_loopw [7] (fun u wr => ∃ (j g cap : Nat), 8 ≤ j ∧ j ≤ z ∧ u = .slice (some ⟨g, 0, none⟩) j cap ∧ Ob wr (w.heap.size + 1) 5 g j cap (hdz n z j) ∧ Blk wr w.heap.size #[.int .i64 n, .int .i64 z] 23 ∧ Below w.heap.size w wr) (fun u _ => z - lenOf u)
    case atStart => exact ⟨8, g2, cap2, Nat.le_refl _, by omega, rfl, HO2.out, HA2.out, HB2.out⟩
    case round =>
      obtain ⟨j, g, cap, hj8, hj, rfl, ho, hbk, hbel⟩ := hrel
      have HO := Lib.hid ho
      have HK := Lib.hid hbk
      have HBL := Lib.hid hbel
      have k1 : wr.cell? ⟨w.heap.size, 1, none⟩ = some (.int .i64 z) := hbk.cell 1
      have hkl := hbk.lt
      have hpl := ho.place
      have hcap := ho.capLe
      clear ho hbk hbel
      by_cases hlt : j < z
      · have d : decide ((j : Int) < (z : Int)) = true := by simp; omega
        go_wp2_with ((with_reducible refine pick (some 54) ?_); refine wpList_append_bytes rfl _ _ _ rfl (w.heap.size + 1) 5 Tryd.underlying24 info8 g j cap (hdz n z j) rfl (HO.out.below ((Below.refl _ _).alloc (Nat.le_refl _) (.cells #[.int .u8 255] 5))) (some ⟨wr.heap.size, 0, none⟩) 1 1 [255] rfl (RingB.bs_one wr 255 (by omega) (by omega) (0, 0)) (fun e => by cases e) (j + 1) rfl _ (hdz_next n z j hj8) (by omega) (by have := HBL.out.size; simp; omega) ?_; intro g3 cap3 w3 ho3 hg3 _)
        have hb3 : Below w.heap.size w w3 := (HBL.out.alloc HBL.out.size _).grown hg3 (by have := HBL.out.size; simp; omega) (by intro k hk; injection hk with hk; omega)
        have hk3 := blk_grown (HK.out.alloc _) hg3 (by simp; omega)
        have HO3 := Lib.hid ho3
        have HB3 := Lib.hid hb3
        have HK3 := Lib.hid hk3
        clear ho3 hb3 hk3 hg3
        go_roundw
        case rel => exact ⟨j + 1, g3, cap3, by omega, by omega, rfl, HO3.out, HK3.out, HB3.out⟩
        case measure => simp [lenOf]; omega
      · obtain rfl : j = z := by omega
        have d : decide ((j : Int) < (j : Int)) = false := by simp
        have sf := slice_front (n := j) (g := g) (cap := cap) (h := j) wr (by omega) hcap
        go_wp2_with fail
        go_ret
        exact ⟨g, cap, rfl, hcap, HO.out.bs, HBL.out⟩
end Go.Proofs.YthbafcihmcjchaaDoor.ScanX
