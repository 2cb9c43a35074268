/- What the laws of layer 16 ask, over the landed names. -/
import Derived.Test.YtieegdbjmjpopaaDoorNamesL
import Derived.Test.YtieegdbjmjpopaaDoorNamesKm
import Derived.Test.YtieegdbjmjpopaaDoorNamesY
import Derived.Test.YtieegdbjmjpopaaDoorKeysU
import Derived.Laws.EntriesVeiled
import Derived.Outline
namespace Go.Proofs.YtieegdbjmjpopaaDoor.NamesK
set_option linter.unusedVariables false
set_option linter.unusedSimpArgs false
open Go.RowKit
open Go.Proofs.YtieegdbjmjpopaaDoor.Byte Go.Proofs.YtieegdbjmjpopaaDoor.KeysM Go.Proofs.YtieegdbjmjpopaaDoor.NamesKm Go.Proofs.YtieegdbjmjpopaaDoor.Lst Go.Proofs.YtieegdbjmjpopaaDoor.Tx Go.Proofs.YtieegdbjmjpopaaDoor.NamesR Go.Proofs.YtieegdbjmjpopaaDoor.NamesL Go.Proofs.YtieegdbjmjpopaaDoor.NamesY
open Go.Proofs.YtieegdbjmjpopaaDoor.NamesM (spl joi slashed namesOf under slashed_snoc spl_no spl_15 spl_1)
open Go.Proofs.YtieegdbjmjpopaaDoor.Own (keeps Blk Blk.new_)
open Go.Proofs.YtieegdbjmjpopaaDoor.KeysU (name_calls)
open Go.Proofs.YtieegdbjmjpopaaDoor.NamesS (take_at JoiE below_drewN)

theorem ent_next : ∀ (args : Array Value) (w : World), (callFunc 22 args).run Tryd.prog w = .ok (.enter 22 args) w := fun args w => by kernel_rfl
theorem name_is {x : ByteArray} {b : Bool} (hb : nameOk x = b) (hx : x.size ≤ 100000) (w : World) : Calls Tryd.prog 23 #[.string x] w fun e w' => e = .returned (.bool b) ∧ Below w.heap.size w w' := by
  subst hb
  exact name_calls x w hx
/-- The two counts behind the function that tells of a name. -/
structure Cnt (w : World) (base p q d z : Nat) : Prop where
  lo1 : base ≤ p
  lo2 : base ≤ q
  ne : p ≠ q
  deep : Blk w p #[.int .i64 (d : Int)] 3
  size : Blk w q #[.int .i64 (z : Int)] 3
theorem Cnt.below {w w' : World} {base p q d z : Nat} (h : Cnt w base p q d z) (hb : Below w.heap.size w w') : Cnt w' base p q d z := ⟨h.lo1, h.lo2, h.ne, h.deep.below hb, h.size.below hb⟩
/-- The function that asks of names. -/
def NextE (w : World) (e : Ending) (w' : World) : Prop := ∃ p q, e = .returned (.func (.func 22) #[] #[.pointer (some ⟨p, 0, none⟩), .pointer (some ⟨q, 0, none⟩)]) ∧ Cnt w' w.heap.size p q 0 0 ∧ Below w.heap.size w w'
set_option maxRecDepth 100000 in
set_option maxHeartbeats 1000000 in
theorem next_calls (w : World) : Calls Tryd.prog 16 #[] w (NextE w) := by
  go_enter Tryd.func16, Tryd.ntmps16
  go_wp2
  go_ret
  refine ⟨w.heap.size, w.heap.size + 1, rfl, ⟨Nat.le_refl _, Nat.le_succ _, by omega, ?_, ?_⟩, ((Below.refl _ _).alloc (Nat.le_refl _) _).alloc (by simp) _⟩
  · exact (Blk.new_ w #[.int .i64 0] 3).alloc _
  · have := Blk.new_ (w.alloc (.cells #[.int .i64 0] 3)) #[.int .i64 0] 3
    simpa using this
/-- One more name is asked for. -/
theorem Cnt.more {w : World} {base p q d z : Nat} (h : Cnt w base p q d z) (n : Nat) : Cnt ((w.setCell ⟨p, 0, none⟩ (.int .i64 ((d : Int) + 1))).setCell ⟨q, 0, none⟩ (.int .i64 ((z : Int) + (1 + (n : Int))))) base p q (d + 1) (z + (1 + n)) := by
  refine ⟨h.lo1, h.lo2, h.ne, ?_, ?_⟩
  · have := (h.deep.set_ 0 (.int .i64 ((d : Int) + 1))).far (p := ⟨q, 0, none⟩) h.ne (.int .i64 ((z : Int) + (1 + (n : Int))))
    simpa using this
  · have := (h.size.far (p := ⟨p, 0, none⟩) (fun e => h.ne e.symm) (.int .i64 ((d : Int) + 1))).set_ 0 (.int .i64 ((z : Int) + (1 + (n : Int))))
    simpa using this
set_option maxRecDepth 100000 in
set_option maxHeartbeats 1000000 in
theorem step_calls (x : ByteArray) (base p q d z : Nat) (B : Bool) (w0 w : World) (hc : Cnt w base p q d z) (hb : Below base w0 w) (hbase : base ≤ w.heap.size) (hd : d ≤ 16) (hz : z ≤ 255) (hx : x.size ≤ 100000) (hB : (nameOk x && decide (d + 1 ≤ 16) && decide (z + (1 + x.size) ≤ 255)) = B) :
    Calls Tryd.prog 22 #[.string x, .pointer (some ⟨p, 0, none⟩), .pointer (some ⟨q, 0, none⟩)] w fun e w' => e = .returned (.bool B) ∧ Cnt w' base p q (d + 1) (z + (1 + x.size)) ∧ Below base w0 w' := by
  have p1 : w.cell? ⟨p, 0, none⟩ = some (.int .i64 (d : Int)) := hc.deep.cell 0
  have q1 : w.cell? ⟨q, 0, none⟩ = some (.int .i64 (z : Int)) := hc.size.cell 0
  have p2 : w.frozen? ⟨p, 0, none⟩ = false := hc.deep.frozen 0
  have q2 : w.frozen? ⟨q, 0, none⟩ = false := hc.size.frozen 0
  have hne : ¬ p = q := hc.ne
  have hne2 : ¬ q = p := fun h => hc.ne h.symm
  have HC := Lib.hid (hc.more x.size)
  have HB := Lib.hid ((hb.setCell (p := ⟨p, 0, none⟩) hc.lo1 (.int .i64 ((d : Int) + 1))).setCell (p := ⟨q, 0, none⟩) hc.lo2 (.int .i64 ((z : Int) + (1 + (x.size : Int)))))
  have HZ := Lib.hid hbase
  have ways : (nameOk x = false ∧ B = false) ∨ (nameOk x = true ∧ ((decide ((d : Int) + 1 ≤ 16) = false ∧ B = false) ∨ (decide ((d : Int) + 1 ≤ 16) = true ∧ ((decide ((z : Int) + (1 + (x.size : Int)) ≤ 255) = false ∧ B = false) ∨ (decide ((z : Int) + (1 + (x.size : Int)) ≤ 255) = true ∧ B = true))))) := by
    subst hB
    cases nameOk x with
    | false => exact .inl ⟨rfl, rfl⟩
    | true =>
      refine .inr ⟨rfl, ?_⟩
      simp only [decide_eq_true_eq, decide_eq_false_iff_not, Bool.true_and, Bool.and_eq_false_iff, Bool.and_eq_true]
      omega
  clear hB hc hb hbase
  rcases ways with ⟨hn, rfl⟩ | ⟨hn, ⟨d1, rfl⟩ | ⟨d1, ⟨d2, rfl⟩ | ⟨d2, rfl⟩⟩⟩
  all_goals
    have HN := Lib.hid (fun w => name_is hn hx w)
    clear hn
    go_enter Tryd.func22, Tryd.ntmps22
    go_wp2_with (go_at_call 23; refine (HN.out _).mono ?_; rintro e w' ⟨rfl, hb'⟩; have HC2 := Lib.hid (HC.out.below hb'); have HB2 := Lib.hid (HB.out.trans (hb'.mono (by simpa using HZ.out))); have t1 : w'.cell? ⟨p, 0, none⟩ = some (.int .i64 ((d : Int) + 1)) := (by have := HC2.out.deep.cell 0; simpa using this); have t2 : w'.cell? ⟨q, 0, none⟩ = some (.int .i64 ((z : Int) + (1 + (x.size : Int)))) := (by have := HC2.out.size.cell 0; simpa using this); clear hb')
    go_ret
    exact ⟨rfl, HC2.out, HB2.out⟩
set_option maxRecDepth 100000 in
set_option maxHeartbeats 2000000 in
theorem all_calls (A : Option Addr) (n c p q : Nat) (L : List ByteArray) (w0 w : World) (hl : Sl txE w0 A n L) (hc : Cnt w w0.heap.size p q 0 0) (hb : Below w0.heap.size w0 w) (hn : n ≤ 100000) (hz : ∀ x ∈ L, x.size ≤ 100000) :
    Calls Tryd.prog 15 #[.slice A n c, .func (.func 22) #[] #[.pointer (some ⟨p, 0, none⟩), .pointer (some ⟨q, 0, none⟩)]] w fun e w' => e = .returned (.bool (jok L)) ∧ Below w0.heap.size w0 w' := by
  have HL := Lib.hid hl
  have HC := Lib.hid hc
  have HB := Lib.hid hb
  have HZ := Lib.hid hz
  have he := ent_next
  clear hl hc hb hz
  go_enter Tryd.func15, Tryd.ntmps15
  go_wp2
  go_loopw [9] (fun i wr => ∃ k : Nat, k ≤ n ∧ i = .int .i64 k ∧ Hid (jok (L.take k) = true) ∧ Hid (Cnt wr w0.heap.size p q k (slashed (L.take k)).length) ∧ Hid (Below w0.heap.size w0 wr)) (fun i _ => n - (intOf i).toNat)
  case atStart => exact ⟨0, Nat.zero_le _, rfl, Lib.hid rfl, HC, HB⟩
  case round =>
    obtain ⟨k, hk, rfl, HJ, HK, HW⟩ := hrel
    by_cases hlt : k < n
    · obtain ⟨x, g, o, hx, rfl, hg, hcl⟩ := (HL.out.below HW.out).get k hlt
      have c1 := tx_cell hcl
      have hxs := HZ.out x (List.mem_of_getElem? hx)
      have hlk : (L.take k).length = k := by rw [List.length_take, HL.out.1]; omega
      have hjs := jok_snoc (L.take k) x HJ.out
      rw [← take_at hx, hlk] at hjs
      obtain ⟨h1, h2, h3⟩ := jok_iff.1 HJ.out
      have hsl : (slashed (L.take (k + 1))).length = (slashed (L.take k)).length + (1 + x.size) := by
        rw [take_at hx, slashed_snoc, List.length_append, List.length_cons, NamesKm.txt_size]
        omega
      obtain ⟨B, hB⟩ : ∃ b, jok (L.take (k + 1)) = b := ⟨_, rfl⟩
      rw [hB] at hjs
      have HS := Lib.hid (step_calls x w0.heap.size p q k (slashed (L.take k)).length B w0 wr HK.out HW.out HW.out.size (by omega) (by omega) hxs hjs.symm)
      rw [← hsl] at HS
      have HBB := Lib.hid hB
      clear hcl hx hlk hjs h1 h2 h3 hsl hB hxs
      cases B with
      | true =>
        go_wp2_with (go_at_call 22; refine HS.out.mono ?_; rintro e w' ⟨rfl, hc', hb'⟩; have HC' := Lib.hid hc'; have HB' := Lib.hid hb'; clear hc' hb')
        go_roundw
        case rel => exact ⟨k + 1, by omega, by go_num, HBB, HC', HB'⟩
        case measure => simp [intOf]; omega
      | false =>
        have HF := Lib.hid (jok_take HBB.out)
        go_wp2_with (go_at_call 22; refine HS.out.mono ?_; rintro e w' ⟨rfl, hc', hb'⟩; have HB' := Lib.hid hb'; clear hc' hb')
        go_ret
        exact ⟨by rw [HF.out]; rfl, HB'.out⟩
    · obtain rfl : k = n := by omega
      have hL : L.take k = L := List.take_of_length_le (by rw [HL.out.1]; exact Nat.le_refl _)
      have HT : Hid (jok L = true) := Lib.hid (by rw [← hL]; exact HJ.out)
      clear hL
      go_wp2_with fail
      go_ret
      exact ⟨by rw [HT.out]; rfl, HW.out⟩
/-! ### Split -/
theorem pre_is (s : ByteArray) (h : 0 < s.size) : Lib.hasPrefix s.data.toList [47] = decide ((txt s).getD 0 0 = 47) := by
  obtain ⟨⟨l⟩⟩ := s
  match l, h with
  | b :: r, _ =>
    show ([47] : List UInt8).isPrefixOf (b :: r) = decide ((b.toNat : Int) = 47)
    rw [pre_47, Bool.eq_iff_iff, beq_iff_eq, decide_eq_true_eq]
    constructor
    · rintro rfl
      rfl
    · intro e
      apply UInt8.toNat_inj.1
      show 47 = b.toNat
      omega
theorem pre_calls (s : ByteArray) (b : Bool) (h : 0 < s.size) (hb : decide ((txt s).getD 0 0 = 47) = b) (w : World) : Calls Tryd.prog 13 #[.string s, .string ⟨#[47]⟩] w fun e w' => e = .returned (.bool b) ∧ w = w' :=
  (Any.strings_HasPrefix preLay s ⟨#[47]⟩ w).mono fun e w' ⟨he, hw⟩ => ⟨he.trans (by rw [← hb, ← pre_is s h]), hw.symm⟩
theorem split_calls (s : ByteArray) (w : World) (hx : Mx w) (hs : s.size ≤ 255) : Calls Tryd.prog 14 #[.string (s.extract 1 s.size), .string ⟨#[47]⟩] w fun e w' => e = .returned (.slice (some ⟨w.heap.size, 0, none⟩) (namesOf s).length (namesOf s).length) ∧ w.alloc (.cells ((namesOf s).map Value.string).toArray 9) = w' := by
  obtain ⟨m, hm⟩ := hx
  have := Any.strings_Split { splitLay with } splitLay.i9 (s.extract 1 s.size) sl m w (by simp; omega) hm (by decide)
  have e := names_split s
  have e2 : Lib.countB (s.extract 1 s.size) sl + 1 = (namesOf s).length := names_count s
  rw [e, e2] at this
  exact this.mono fun e w' ⟨h1, h2⟩ => ⟨h1, h2.symm⟩
theorem flat_tx (L : List ByteArray) : L.map Value.string = flat txE L := by
  induction L with
  | nil => rfl
  | cons a r ih =>
    rw [List.map_cons, ih]
    rfl
set_option maxRecDepth 100000 in
set_option maxHeartbeats 1000000 in
theorem split_small (s : ByteArray) (w : World) (h : s.size = 0 ∨ 255 < s.size ∨ (0 < s.size ∧ s.size ≤ 255 ∧ ¬ (txt s).getD 0 0 = 47) ∨ s = ⟨#[47]⟩) (hn : s.size ≤ 100000) : Calls Tryd.prog 7 #[.string s] w (SplE s w) := by
  have HO := Lib.hid (So.none_ (w := w))
  have HB := Lib.hid (Below.refl w.heap.size w)
  have hs : (s.size : Int) ≤ 9223372036854775807 := by omega
  rcases h with h | h | ⟨h0, h1, h⟩ | h
  · obtain rfl : s = ⟨#[]⟩ := KeysM.empty_of h
    have HK := Lib.hid (spl_no (.inl h))
    clear h hn hs
    go_enter Tryd.func7, Tryd.ntmps7
    go_wp2_with fail
    go_ret2
    exact SplE.of HK.out HO.out HB.out
  · have HK := Lib.hid (spl_no (s := s) (.inr h))
    have n1 := KeysU.list_ne (s := s) (by omega)
    have n2 : s.toList.isEmpty = false := by rw [List.isEmpty_eq_false_iff]; exact n1
    have n3 : (s.toList == []) = false := by rw [beq_eq_false_iff_ne]; exact n1
    have d : decide ((255 : Int) < (s.size : Int)) = true := by simp; omega
    clear h hn
    go_enter Tryd.func7, Tryd.ntmps7
    go_wp2_with fail
    go_ret2
    exact SplE.of HK.out HO.out HB.out
  · have HK := Lib.hid (spl_15 (s := s) (by omega) h)
    have n1 := KeysU.list_ne h0
    have n2 : s.toList.isEmpty = false := by rw [List.isEmpty_eq_false_iff]; exact n1
    have n3 : (s.toList == []) = false := by rw [beq_eq_false_iff_ne]; exact n1
    have d : decide ((255 : Int) < (s.size : Int)) = false := by simp; omega
    have HP := Lib.hid (pre_calls s false h0 (decide_eq_false h) w)
    clear h hn h0 h1
    go_enter Tryd.func7, Tryd.ntmps7
    go_wp2_with (go_at_call 13; refine HP.out.mono ?_; rintro e w' ⟨rfl, rfl⟩)
    go_ret2
    exact SplE.of HK.out HO.out HB.out
  · subst h
    have HK : Hid (spl ⟨#[47]⟩ = ([], 0)) := Lib.hid (by decide +kernel)
    have HP := Lib.hid (pre_calls ⟨#[47]⟩ true (by decide) (by decide +kernel) w)
    clear hn hs
    go_enter Tryd.func7, Tryd.ntmps7
    go_wp2_with (go_at_call 13; refine HP.out.mono ?_; rintro e w' ⟨rfl, rfl⟩)
    go_ret2
    exact SplE.of HK.out HO.out HB.out
theorem names_small {s : ByteArray} (h2 : 2 ≤ s.size) (h : s.size ≤ 255) (h47 : (txt s).getD 0 0 = 47) : (namesOf s).length ≤ 255 ∧ ∀ x ∈ namesOf s, x.size ≤ 255 := by
  have hs : slashed (namesOf s) = txt s := by rw [NamesM.slashed_map, NamesM.txt_names, NamesM.fields_back, ← NamesM.txt_cons (by omega) h47]
  have hl := slashed_bounds (namesOf s)
  rw [hs, NamesKm.txt_size] at hl
  exact ⟨by omega, fun x hx => by have := hl.2 x hx; omega⟩
set_option maxRecDepth 100000 in
set_option maxHeartbeats 2000000 in
theorem split_long (s : ByteArray) (w : World) (hx : Mx w) (h2 : 2 ≤ s.size) (h3 : s.size ≤ 255) (h47 : (txt s).getD 0 0 = 47) : Calls Tryd.prog 7 #[.string s] w (SplE s w) := by
  have hs : (s.size : Int) ≤ 9223372036854775807 := by omega
  have HK := Lib.hid (spl_yes h2 h3 h47)
  have HSM := Lib.hid (names_small h2 h3 h47)
  have n1 := KeysU.list_ne (s := s) (by omega)
  have n2 : s.toList.isEmpty = false := by rw [List.isEmpty_eq_false_iff]; exact n1
  have n3 : (s.toList == []) = false := by rw [beq_eq_false_iff_ne]; exact n1
  have d : decide ((255 : Int) < (s.size : Int)) = false := by simp; omega
  have n4 : (s.toList == [47]) = false := by
    rw [beq_eq_false_iff_ne]
    intro e
    have := KeysU.list_is _ e
    rw [this] at h2
    exact absurd h2 (by decide)
  have HP := Lib.hid (pre_calls s true (by omega) (decide_eq_true h47) w)
  have HS := Lib.hid (split_calls s w hx h3)
  have k1 : (1 : Int) ≤ (s.size : Int) := by omega
  have k2 : 1 ≤ s.size := by omega
  have HON := Lib.hid (So.none_ (w := w))
  obtain ⟨L, hL⟩ : ∃ L, namesOf s = L := ⟨_, rfl⟩
  rw [hL] at HK HSM HS
  obtain ⟨n, hnl⟩ : ∃ n, L.length = n := ⟨_, rfl⟩
  have HSO := Lib.hid (So.lit txE 9 w L (L.map Value.string).toArray n hnl (by rw [← flat_tx]) (Nat.le_refl _) (by have := HSM.out.1; unfold maxLen; omega))
  have HB1 := Lib.hid (below_lit (w := w) (L.map Value.string).toArray 9)
  rw [hnl] at HS HSM
  clear hx h2 h3 h47 hL hnl
  obtain ⟨W, hW⟩ : ∃ W, w.alloc (.cells (L.map Value.string).toArray 9) = W := ⟨_, rfl⟩
  rw [hW] at HS HSO HB1
  have HNX := Lib.hid (next_calls W)
  have HA := Lib.hid (fun (p q : Nat) (w2 : World) (hc : Cnt w2 W.heap.size p q 0 0) (hb : Below W.heap.size W w2) => all_calls (some ⟨w.heap.size, 0, none⟩) n n p q L W w2 HSO.out.sl hc hb (by have := HSM.out.1; omega) (fun x hx => by have := HSM.out.2 x hx; omega))
  clear hW
  obtain ⟨B, hB⟩ : ∃ b, jok L = b := ⟨_, rfl⟩
  rw [hB] at HA HK
  clear hB
  cases B with
  | true =>
    have HK2 : Hid (spl s = (L, 0)) := Lib.hid HK.out
    clear HK
    go_enter Tryd.func7, Tryd.ntmps7
    go_wp2_with (first
      | (go_at_call 13; refine HP.out.mono ?_; rintro e w' ⟨rfl, rfl⟩)
      | (go_at_call 14; refine HS.out.mono ?_; rintro e w' ⟨rfl, rfl⟩)
      | (go_at_call 16; refine HNX.out.mono ?_; rintro e w2 ⟨p, q, rfl, hc2, hb2⟩; have HC2 := Lib.hid hc2; have HB2 := Lib.hid hb2; clear hc2 hb2)
      | (go_at_call 15; refine (HA.out _ _ _ HC2.out HB2.out).mono ?_; rintro e w3 ⟨rfl, hb3⟩; have HB3 := Lib.hid hb3; clear hb3))
    go_ret2
    exact SplE.of HK2.out (HSO.out.below HB3.out) (keeps HB1.out HB3.out)
  | false =>
    have HK2 : Hid (spl s = ([], 17)) := Lib.hid HK.out
    clear HK
    go_enter Tryd.func7, Tryd.ntmps7
    go_wp2_with (first
      | (go_at_call 13; refine HP.out.mono ?_; rintro e w' ⟨rfl, rfl⟩)
      | (go_at_call 14; refine HS.out.mono ?_; rintro e w' ⟨rfl, rfl⟩)
      | (go_at_call 16; refine HNX.out.mono ?_; rintro e w2 ⟨p, q, rfl, hc2, hb2⟩; have HC2 := Lib.hid hc2; have HB2 := Lib.hid hb2; clear hc2 hb2)
      | (go_at_call 15; refine (HA.out _ _ _ HC2.out HB2.out).mono ?_; rintro e w3 ⟨rfl, hb3⟩; have HB3 := Lib.hid hb3; clear hb3))
    go_ret2
    exact SplE.of HK2.out (HON.out.below (keeps HB1.out HB3.out)) (keeps HB1.out HB3.out)
theorem split_ok : SplitOk := by
  intro s w hn hx
  by_cases h0 : s.size = 0
  · exact split_small s w (.inl h0) hn
  by_cases h1 : 255 < s.size
  · exact split_small s w (.inr (.inl h1)) hn
  by_cases h2 : (txt s).getD 0 0 = 47
  · by_cases h3 : s.size = 1
    · refine split_small s w (.inr (.inr (.inr ?_))) hn
      exact one_47 h3 h2
    · exact split_long s w hx (by omega) (by omega) h2
  · exact split_small s w (.inr (.inr (.inl ⟨by omega, by omega, h2⟩))) hn
theorem join_calls (A : Option Addr) (n c : Nat) (L : List ByteArray) (w : World) (hl : Sl txE w A n L) (hnc : n ≤ c) (h16 : L.length ≤ 16) (h255 : (slashed L).length ≤ 255) : Calls Tryd.prog 18 #[.slice A n c, .string ⟨#[47]⟩] w fun e w' => e = .returned (.string ⟨(Lib.join (L.map (·.data.toList)) sl.data.toList).toArray⟩) ∧ Below w.heap.size w w' := by
  have hj := join_size L
  rcases Nat.eq_zero_or_pos n with h0 | h0
  · subst h0
    have hL : L = [] := List.eq_nil_of_length_eq_zero hl.1
    subst hL
    exact (Any.strings_Join_none joinLay joinExtra A c ⟨#[47]⟩ w).mono fun e w' ⟨he, hw⟩ => ⟨he, hw ▸ Below.refl _ _⟩
  · obtain ⟨x, b, o, _, rfl, hb, _⟩ := hl.get 0 h0
    have hn := hl.1
    subst hn
    exact Any.strings_Join joinLay joinExtra b o c L sl w (fun j x hx => tx_cell (hl.at_ j x hx).2) hb (by omega) hnc (by omega)
/-! ### Join -/
set_option maxRecDepth 100000 in
set_option maxHeartbeats 2000000 in
theorem join_ok : JoinOk := by
  intro A n c L w hl hnc hn hz
  have HNX := Lib.hid (next_calls w)
  have HA := Lib.hid (fun (p q : Nat) (w2 : World) (hc : Cnt w2 w.heap.size p q 0 0) (hb : Below w.heap.size w w2) => all_calls A n c p q L w w2 hl hc hb hn hz)
  cases hB : jok L with
  | false =>
    have HK := Lib.hid (joi_no hB)
    rw [hB] at HA
    clear hB hl hz hnc hn
    go_enter Tryd.func10, Tryd.ntmps10
    go_wp2_with (first
      | (go_at_call 16; refine HNX.out.mono ?_; rintro e w2 ⟨p, q, rfl, hc2, hb2⟩; have HC2 := Lib.hid hc2; have HB2 := Lib.hid hb2; clear hc2 hb2)
      | (go_at_call 15; refine (HA.out _ _ _ HC2.out HB2.out).mono ?_; rintro e w3 ⟨rfl, hb3⟩; have HB3 := Lib.hid hb3; clear hb3))
    go_ret2
    exact JoiE.of HK.out HB3.out
  | true =>
    have hk := joi_yes hB
    rw [← join_is] at hk
    have HK := Lib.hid hk
    have HJ := Lib.hid (fun w3 (hb : Below w.heap.size w w3) => join_calls A n c L w3 (hl.below hb) hnc (jok_iff.1 hB).2.1 (jok_iff.1 hB).2.2)
    rw [hB] at HA
    obtain ⟨T, hT⟩ : ∃ T, (⟨(Lib.join (L.map (·.data.toList)) sl.data.toList).toArray⟩ : ByteArray) = T := ⟨_, rfl⟩
    have hts : T.size ≤ 255 := by
      rw [← hT]
      have h1 := join_size L
      have h2 := (jok_iff.1 hB).2.2
      show (Lib.join (L.map (·.data.toList)) sl.data.toList).length ≤ 255
      omega
    rw [hT] at HK HJ
    clear hB hl hz hnc hn hk hT
    go_enter Tryd.func10, Tryd.ntmps10
    go_wp2_with (first
      | (go_at_call 16; refine HNX.out.mono ?_; rintro e w2 ⟨p, q, rfl, hc2, hb2⟩; have HC2 := Lib.hid hc2; have HB2 := Lib.hid hb2; clear hc2 hb2)
      | (go_at_call 15; refine (HA.out _ _ _ HC2.out HB2.out).mono ?_; rintro e w3 ⟨rfl, hb3⟩; have HB3 := Lib.hid hb3; clear hb3)
      | (go_at_call 18; refine (HJ.out _ HB3.out).mono ?_; rintro e w4 ⟨rfl, hb4⟩; have HB4 := Lib.hid (keeps HB3.out hb4); clear hb4))
    go_ret2
    exact JoiE.of HK.out HB4.out
theorem eq_calls (A B : Option Addr) (n c m c2 : Nat) (L M : List ByteArray) (w : World) (hl : Sl txE w A n L) (hm : Sl txE w B m M) (h : n < m) (hn : n ≤ 100000) : Calls Tryd.prog 19 #[.slice A n c, .slice B n c2] w fun e w' => e = .returned (.bool (decide (L = M.take n))) ∧ Below w.heap.size w w' := by
  rcases Nat.eq_zero_or_pos n with h0 | h0
  · subst h0
    have hL : L = [] := List.eq_nil_of_length_eq_zero hl.1
    subst hL
    exact (Any.slices_Equal_string_empty eqLay A B c 0 c2 w (by decide)).mono fun e w' ⟨he, hw⟩ => ⟨he.trans (by simp), hw ▸ Below.refl _ _⟩
  · obtain ⟨x, b, o, _, rfl, hb, _⟩ := hl.get 0 h0
    obtain ⟨y, b2, o2, _, rfl, hb2, _⟩ := hm.get 0 (by omega)
    have ln := hl.1
    have lm := hm.1
    refine (Any.slices_Equal_string eqLay b o n c b2 o2 n c2 L M w (by omega) (by omega) (by omega) (by omega) (fun j hj => ?_) (fun j hj => ?_)).mono fun e w' ⟨he, q, hw⟩ => ⟨he.trans ?_, hw ▸ below_drewN (Below.refl _ _) q⟩
    · rw [List.getD_eq_getElem?_getD, List.getElem?_eq_getElem hj]
      exact tx_cell (hl.at_ j _ (List.getElem?_eq_getElem hj)).2
    · rw [List.getD_eq_getElem?_getD, List.getElem?_eq_getElem hj]
      exact tx_cell (hm.at_ j _ (List.getElem?_eq_getElem hj)).2
    · rw [List.take_of_length_le (by omega : L.length ≤ n)]
/-! ### Under -/
set_option maxRecDepth 100000 in
set_option maxHeartbeats 2000000 in
theorem under_ok : UnderOk := by
  intro A B n c m c2 L M w hl hm hnc hmc hn hmm
  by_cases h : n < m
  · have hu : under L M = decide (L = M.take n) := by
      rw [under_yes (by rw [hl.1, hm.1]; exact h), hl.1]
      by_cases e : L = M.take n
      · rw [decide_eq_true e, decide_eq_true e.symm]
      · rw [decide_eq_false e, decide_eq_false (fun h => e h.symm)]
    have HE := Lib.hid (eq_calls A B n c m c2 L M w hl hm (by omega) hn)
    rw [← hu] at HE
    have d : decide ((n : Int) < (m : Int)) = true := by rw [decide_eq_true_eq]; omega
    have d' : decide (n < m) = true := decide_eq_true h
    have k1 : (0 : Int) ≤ (n : Int) := by omega
    have k2 : (n : Int) ≤ (c2 : Int) := by omega
    have k3 : n ≤ c2 := by omega
    clear hu hl hm hmc hnc h
    go_enter Tryd.func12, Tryd.ntmps12
    go_wp2_with (go_at_call 19; refine HE.out.mono ?_; rintro e w2 ⟨rfl, hb2⟩; have HB2 := Lib.hid hb2; clear hb2)
    go_ret
    exact ⟨rfl, HB2.out⟩
  · have hu : under L M = false := under_no (by rw [hl.1, hm.1]; exact h)
    have d : decide ((n : Int) < (m : Int)) = false := by rw [decide_eq_false_iff_not]; omega
    have d' : decide (n < m) = false := decide_eq_false h
    rw [hu]
    clear hu hl hm hmc hnc h
    go_enter Tryd.func12, Tryd.ntmps12
    go_wp2_with fail
    go_ret
    exact ⟨rfl, Below.refl _ _⟩
end Go.Proofs.YtieegdbjmjpopaaDoor.NamesK
