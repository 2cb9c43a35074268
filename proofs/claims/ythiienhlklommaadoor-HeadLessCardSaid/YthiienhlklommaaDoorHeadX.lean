/- What HeadLess reckons with: bytes of heads that are cut off, dead, erased again; clear of the front of a row. -/
import Derived.Test.YthiienhlklommaaDoorHeadF
import Derived.Laws.BitsAllLaws
namespace Go.Proofs.YthiienhlklommaaDoor.HeadX
set_option linter.unusedVariables false
set_option linter.unusedSimpArgs false
open Go.RowKit
open Go.Proofs.YthiienhlklommaaDoor.Byte Go.Proofs.YthiienhlklommaaDoor.PackM Go.Proofs.YthiienhlklommaaDoor.PackV Go.Proofs.YthiienhlklommaaDoor.MayM Go.Proofs.YthiienhlklommaaDoor.HeadM Go.Proofs.YthiienhlklommaaDoor.HeadR Go.Proofs.YthiienhlklommaaDoor.HeadS Go.Proofs.YthiienhlklommaaDoor.HeadW Go.Proofs.YthiienhlklommaaDoor.HeadF

section
variable {P : Program} {w : World}
theorem set_take (xs : List Int) (o : Nat) (v : Int) (h : o < xs.length) : (xs.set o v).take (o + 1) = xs.take o ++ [v] := by
  rw [List.take_succ_eq_append_getElem (by simpa using h), List.getElem_set_self, List.take_set_of_le (Nat.le_refl _)]
theorem ob_fill (v : Int) (h0 : 0 ≤ v) (h1 : v ≤ 255) {base : Nat} {e : TypeId} {g n cap : Nat} : ∀ (q o : Nat) (w : World) (xs : List Int), Ob w base e g n cap xs → o + q ≤ n → Ob (w.setCells g o (List.replicate q (.int .u8 v))) base e g n cap (xs.take o ++ (List.replicate q v ++ xs.drop (o + q)))
  | 0, o, w, xs, h, _ => by
    show Ob w _ _ _ _ _ _
    simpa using h
  | q + 1, o, w, xs, h, hq => by
    have hl := h.1
    have hs := h.set_ o v h0 h1
    have ih := ob_fill v h0 h1 q (o + 1) _ _ hs (by omega)
    rw [set_take xs o v (by omega), List.drop_set_of_lt (by omega)] at ih
    rw [List.replicate_succ, World.setCells]
    have e2 : o + 1 + q = o + (q + 1) := by omega
    rw [e2] at ih
    rw [List.replicate_succ]
    simpa using ih
/-- clear of the first bytes of an own row. -/
theorem wpList_clear_front {ops : Array Oper} {rest : List Oper} {o : Oper} {a : Act} {Q : Exit → Act → World → Prop} (hgd : o.guard = none) (s : Operand) (t : TypeId)
    (ho : o.op = .call { callee := .builtin .clear, args := #[s], argTypes := #[t] })
    (base : Nat) (e : TypeId) (ht : P.underlying t = some (.slice e)) (hzero : ∀ w, (zeroValue e).run P w = .ok (.int .u8 0) w)
    (g q n cap c : Nat) (xs : List Int) (hs : a.eval s = .slice (some ⟨g, 0, none⟩) q c) (hown : Ob w base e g n cap xs) (hn : q ≤ n)
    (h : ∀ w', Ob w' base e g n cap (List.replicate q 0 ++ xs.drop q) → w.grownBy w' (some g) → wpList P ops Q rest (a.put o.dst (.tuple #[])) w') :
    wpList P ops Q (o :: rest) a w := by
  refine wpList_plain hgd fun K hK => ?_
  obtain ⟨cur, hg, hb, hnc, hcm, hcs, htk⟩ := hown.row
  rcases Nat.eq_zero_or_pos q with h0 | h0
  · subst h0
    have hr : (Builtin.clear_ #[t] o.type #[.slice (some ⟨g, 0, none⟩) 0 c]).run P w = .ok (.tuple #[]) w := by simp [Builtin.clear_, run_underlying ht]
    unfold Oper.wp execOp
    simp only [ho, resolve, invoke, builtin, Sem.run_bind, Sem.run_pure, Result.andThen_ok, List.map_toArray, List.map_cons, List.map_nil, hs, hr]
    exact hK _ _ (h w (by simpa using hown) (World.grownBy.refl w _))
  · have hr := Lib.run_clear_slice (P := P) w t e o.type (.int .u8 0) ht hzero rfl rfl g 0 q c h0 (fun j hj => by rw [Nat.zero_add, hown.cell j (by omega)]; rfl) (fun j _ => by rw [Nat.zero_add]; exact hown.frozen j)
    unfold Oper.wp execOp
    simp only [ho, resolve, invoke, builtin, Sem.run_bind, Sem.run_pure, Result.andThen_ok, List.map_toArray, List.map_cons, List.map_nil, hs, hr]
    refine hK _ _ (h _ ?_ (grown_setCells g _ 0 w))
    have := ob_fill 0 (by omega) (by omega) q 0 w xs hown (by omega)
    rwa [List.take_zero, List.nil_append, Nat.zero_add] at this
end
theorem zero_u8 (w : World) : (zeroValue 5).run Tryd.prog w = .ok (.int .u8 0) w := by kernel_rfl
theorem slice8 {w : World} {g n c : Nat} (h : 8 ≤ c) : (Instr.sliceAt 26 (.slice (some ⟨g, 0, none⟩) n c) none (some (.int .i64 8)) none).run Tryd.prog w = .ok (.slice (some ⟨g, 0, none⟩) 8 c) w := by
  have hs : (sizeOf (Tryd.prog.elem 26)).run Tryd.prog w = .ok 1 w := by kernel_rfl
  have hT : Tryd.prog.underlying 26 = some (.slice (Tryd.prog.elem 26)) := by kernel_rfl
  have r := run_slice_h (P := Tryd.prog) (w := w) 26 (some ⟨g, 0, none⟩) n c hT .i64 8 (by omega) (by omega)
  rw [hs] at r
  rw [run_sliceAt_slice (h := hT), r]
  show Result.ok _ w = _
  unfold sliced
  have e : ¬ c = 0 := by omega
  simp [Addr.add, e]
theorem slice88 {w : World} {g : Nat} : (Instr.sliceAt 24 (.pointer (some ⟨g, 0, none⟩)) none none none).run Tryd.prog w = .ok (.slice (some ⟨g, 0, none⟩) 8 8) w := by kernel_rfl
theorem conv8 {w : World} {g n c : Nat} {xs : List Int} (h : Bs w (some ⟨g, 0, none⟩) n xs) (hn : 8 ≤ n) : (convert 26 9 (.slice (some ⟨g, 0, none⟩) 8 c)).run Tryd.prog w = .ok (.string (str (xs.take 8))) w := by
  have := h.sub 0 8 (by omega)
  rw [List.drop_zero, Nat.add_zero] at this
  exact this.str_ (P := Tryd.prog) (c := c) 26 9 Tryd.underlying26 Tryd.underlying5 Tryd.underlying9
theorem eq_int {w : World} (x y : Int) : (binOp .eql 3 (.int .i64 x) (.int .i64 y)).run Tryd.prog w = .ok (.bool (decide (x = y))) w := by
  go_simp
  rw [Bool.eq_iff_iff]
  simp
theorem eq_str {w : World} (x y : ByteArray) : (binOp .eql 9 (.string x) (.string y)).run Tryd.prog w = .ok (.bool (x.toList == y.toList)) w := by
  go_simp
theorem ne_bool {w : World} (x : Bool) : (binOp .neq 4 (.bool x) (.bool x)).run Tryd.prog w = .ok (.bool false) w := by
  cases x <;> kernel_rfl
/-- The mathematics. -/
theorem fillk_set (xs : List Int) (k : Nat) (h : k < xs.length) : (List.replicate k (255 : Int) ++ xs.drop k).set k 255 = List.replicate (k + 1) 255 ++ xs.drop (k + 1) := by
  rw [List.drop_eq_getElem_cons h, List.set_append_right _ _ (by simp), List.length_replicate, Nat.sub_self, List.set_cons_zero, List.replicate_succ', List.append_assoc]
  rfl
theorem u8or (a b : Int) (h0 : 0 ≤ a) (h1 : a ≤ 255) (h2 : 0 ≤ b) (h3 : b ≤ 255) : 0 ≤ bits .or .u8 a b ∧ bits .or .u8 a b ≤ 255 := by
  obtain ⟨x, rfl⟩ := Int.eq_ofNat_of_zero_le h0
  obtain ⟨y, rfl⟩ := Int.eq_ofNat_of_zero_le h2
  rw [u8_or_nat _ _ (by omega) (by omega)]
  have : x ||| y < 2 ^ 8 := Nat.or_lt_two_pow (by omega) (by omega)
  omega
/-- What a sector is taken for, and how its first eight bytes compare with the head, as one word. -/
theorem live_is {n : Int} {z : Nat} {xs : List Int} (hm : may n z = true) (hl : xs.length = z) (hx : ∀ x ∈ xs, 0 ≤ x ∧ x ≤ 255) : ((str (xs.take 8)).toList == (str (hd n z)).toList) = decide (cls n z xs = 1) := by
  rw [cls_in hm (by rw [hl])]
  by_cases h : xs.take 8 = hd n z
  · rw [if_pos h, h]
    simp
  · rw [if_neg h]
    have e1 : ((str (xs.take 8)).toList == (str (hd n z)).toList) = false := by
      refine beq_eq_false_iff_ne.2 fun h' => h (str_inj (fun x hx' => hx x (List.mem_of_mem_take hx')) (hd_bd n z) (toList_inj h'))
    rw [e1]
    by_cases h2 : xs.all (· == 255) = true
    · rw [if_pos h2]; rfl
    · rw [if_neg h2]; rfl
theorem or0 (m : Int) (h0 : 0 ≤ m) (h1 : m ≤ 255) : bits .or .u8 0 m = m := by
  obtain ⟨x, rfl⟩ := Int.eq_ofNat_of_zero_le h0
  have := u8_or_nat 0 x (by omega) (by omega)
  rw [Nat.zero_or] at this
  exact this
theorem sec8 (z : Nat) (h : 8 ≤ z) : sec z (List.replicate 8 0) = [0, 0, 0, 0, 0, 0, 0, 0] ++ List.replicate (z - 8) 255 := by
  unfold sec
  rw [List.take_of_length_le (by simpa using h)]
  rfl
theorem cls_c {n : Int} {z q : Nat} {mask : Int} (hm : may n z = true) (hq : q < 8) : cls n z ((List.replicate q 255 ++ (sec z (List.replicate 8 0)).drop q).set q mask) = if q = 7 ∧ mask = 255 then 0 else 2 := by
  have hz := may_yes hm
  have h4 := take4 hm
  have h8 : (hd n z).length = 8 := hd_len n z
  have hl : ((List.replicate q (255 : Int) ++ (sec z (List.replicate 8 0)).drop q).set q mask).length = z := by
    rw [List.length_set, List.length_append, List.length_replicate, List.length_drop, sec_len]
    omega
  rw [cls_in hm (by rw [hl])]
  rw [sec8 z (by omega)]
  have ha : (List.replicate (z - 8) (255 : Int)).all (· == 255) = true := by rw [List.all_replicate]; simp
  generalize List.replicate (z - 8) (255 : Int) = R at ha
  generalize hd n z = H at h4 h8
  match H, h8 with
  | [a, b, c, d, e, f, g, h], _ =>
    simp only [List.take_succ_cons, List.take_zero, List.cons.injEq, and_true] at h4
    obtain ⟨rfl, rfl, rfl, rfl⟩ := h4
    rcases (show q = 0 ∨ q = 1 ∨ q = 2 ∨ q = 3 ∨ q = 4 ∨ q = 5 ∨ q = 6 ∨ q = 7 by omega) with rfl | rfl | rfl | rfl | rfl | rfl | rfl | rfl <;> simp [List.replicate, ha]
end Go.Proofs.YthiienhlklommaaDoor.HeadX
