/- Layer 14's laws: the front of the operations that is gone through; a base and its row. -/
import Derived.Test.YtdnenikplajmaaaViewF
import Derived.Deep.MidRow
namespace Go.Proofs.Ytdnenikplajmaaa.ViewB
set_option linter.unusedVariables false
set_option linter.unusedSimpArgs false
open Go.RowKit
open Go.Proofs.Ytdnenikplajmaaa.Byte Go.Proofs.Ytdnenikplajmaaa.KeysM Go.Proofs.Ytdnenikplajmaaa.TreeM Go.Proofs.Ytdnenikplajmaaa.ViewM Go.Proofs.Ytdnenikplajmaaa.Own Go.Proofs.Ytdnenikplajmaaa.Rw Go.Proofs.Ytdnenikplajmaaa.Lst Go.Proofs.Ytdnenikplajmaaa.Chg Go.Proofs.Ytdnenikplajmaaa.TreeR Go.Proofs.Ytdnenikplajmaaa.TreeS Go.Proofs.Ytdnenikplajmaaa.TreeL Go.Proofs.Ytdnenikplajmaaa.TreeG Go.Proofs.Ytdnenikplajmaaa.TreeH Go.Proofs.Ytdnenikplajmaaa.Ho Go.Proofs.Ytdnenikplajmaaa.ViewR Go.Proofs.Ytdnenikplajmaaa.ViewG Go.Proofs.Ytdnenikplajmaaa.ViewW Go.Proofs.Ytdnenikplajmaaa.ViewS Go.Proofs.Ytdnenikplajmaaa.ViewL Go.Proofs.Ytdnenikplajmaaa.ViewF

structure Op14 where
  kind : Int
  key : ByteArray
  value : ByteArray
deriving Inhabited
def oqE : Enc Op14 := ⟨fun p => [.int .i64 p.kind, .string p.key, .string p.value], 3, fun _ => rfl, fun x u hu => by
  simp only [List.mem_cons, List.mem_nil_iff, or_false] at hu
  rcases hu with rfl | rfl | rfl <;> rfl, by decide⟩
theorem info_oq : (Try.prog.info? 35).map (·.size) = some 3 := by kernel_rfl
/-- An operation that may be gone through. -/
def okOq (p : Op14) : Prop := p.key.size ≤ 100 ∧ p.value.size ≤ 100
/-- What may come in: the numbers fit their kinds. -/
def fitOq (p : Op14) : Prop := (-9223372036854775808 ≤ p.kind ∧ p.kind ≤ 9223372036854775807) ∧ p.key.size ≤ maxLen ∧ p.value.size ≤ maxLen
theorem oq_cells {w : World} {b o k : Nat} {x : Op14} (h : w.rangeAt b (o + k * oqE.size) (oqE.cells x)) : w.cell? ⟨b, o + k * 3, none⟩ = some (.int .i64 x.kind) ∧ w.cell? ⟨b, o + k * 3 + 1, none⟩ = some (.string x.key) ∧ w.cell? ⟨b, o + k * 3 + 2, none⟩ = some (.string x.value) ∧ w.rangeAt b (o + k * 3) [.int .i64 x.kind, .string x.key, .string x.value] :=
  ⟨h 0 _ rfl, h 1 _ rfl, h 2 _ rfl, h⟩
/-- The call answers with a front of the operations, all of which may be gone through. -/
def FrontQ (A : Option Addr) (n c : Nat) (L : List Op14) (w : World) (e : Ending) (w' : World) : Prop := ∃ m, e = .returned (.slice A m c) ∧ m ≤ n ∧ m ≤ 200 ∧ (∀ p ∈ L.take m, okOq p) ∧ Below w.heap.size w w'
set_option maxRecDepth 100000 in
set_option maxHeartbeats 4000000 in
theorem cut_calls (A : Option Addr) (n c : Nat) (L : List Op14) (w : World) (hl : Sl oqE w A n L) (hn : n ≤ c) (hc : c ≤ maxLen) (hf : ∀ p ∈ L, fitOq p) :
    Calls Try.prog 10 #[.slice A n c] w (FrontQ A n c L w) := by
  unfold maxLen at hc
  have HL := Lib.hid hl
  have HF := Lib.hid hf
  clear hl hf
  go_enter Try.func10, Try.ntmps10
  go_wp2
  go_loopw [7] (fun i wr => ∃ k : Nat, k ≤ n ∧ k ≤ 200 ∧ i = .int .i64 k ∧ Hid (∀ p ∈ L.take k, okOq p) ∧ Below w.heap.size w wr) (fun i _ => n - (intOf i).toNat)
  case atStart => exact ⟨0, Nat.zero_le _, Nat.zero_le _, rfl, Lib.hid (fun p hp => by simp at hp), Below.refl _ _⟩
  case round =>
    obtain ⟨k, hk, hk2, rfl, HK, hbel⟩ := hrel
    by_cases hlt : k < n
    · obtain ⟨x, g, o, hx, rfl, hg, hcl⟩ := (HL.out.below hbel).get k hlt
      obtain ⟨_, _, _, hc3⟩ := oq_cells hcl
      have HC := Lib.hid hc3
      have HX := Lib.hid hx
      have HBL := Lib.hid hbel
      have hbs := hbel.size
      have hfx := HF.out x (List.mem_of_getElem? hx)
      obtain ⟨⟨_, _⟩, f1, f2⟩ := hfx
      unfold maxLen at f1 f2
      obtain ⟨kind, key, value⟩ := x
      dsimp only at f1 f2 hc3
      have hkc : k ≤ c := by omega
      have hb1 : Below w.heap.size w (wr.alloc (.cells #[.int .i64 kind, .string key, .string value] 35)) := hbel.alloc hbs _
      have HB1 := Lib.hid hb1
      clear hcl hc3 hx hbel hb1
      rcases (show 200 ≤ k ∨ (k < 200 ∧ 100 < key.size) ∨ (k < 200 ∧ key.size ≤ 100 ∧ 100 < value.size) ∨ (k < 200 ∧ key.size ≤ 100 ∧ value.size ≤ 100) by omega) with q | ⟨q, q1⟩ | ⟨q, q1, q2⟩ | ⟨q, q1, q2⟩
      · have d1 : decide ((200 : Int) ≤ (k : Int)) = true := decide_eq_true (by omega)
        go_wp2_with ((with_reducible refine pick (some 11) ?_); refine wpList_load_mid rfl 35 _ rfl g (o + k * 3) rfl [.int .i64 kind, .string key, .string value] _ HC.out Try.underlying35 rfl info_oq ?_)
        go_ret
        exact ⟨k, rfl, hk, hk2, HK.out, HB1.out⟩
      · have d1 : decide ((200 : Int) ≤ (k : Int)) = false := decide_eq_false (by omega)
        have d2 : decide ((100 : Int) < (key.size : Int)) = true := decide_eq_true (by omega)
        go_wp2_with ((with_reducible refine pick (some 11) ?_); refine wpList_load_mid rfl 35 _ rfl g (o + k * 3) rfl [.int .i64 kind, .string key, .string value] _ HC.out Try.underlying35 rfl info_oq ?_)
        go_ret
        exact ⟨k, rfl, hk, hk2, HK.out, HB1.out⟩
      · have d1 : decide ((200 : Int) ≤ (k : Int)) = false := decide_eq_false (by omega)
        have d2 : decide ((100 : Int) < (key.size : Int)) = false := decide_eq_false (by omega)
        have d3 : decide ((100 : Int) < (value.size : Int)) = true := decide_eq_true (by omega)
        go_wp2_with ((with_reducible refine pick (some 11) ?_); refine wpList_load_mid rfl 35 _ rfl g (o + k * 3) rfl [.int .i64 kind, .string key, .string value] _ HC.out Try.underlying35 rfl info_oq ?_)
        go_ret
        exact ⟨k, rfl, hk, hk2, HK.out, HB1.out⟩
      · have d1 : decide ((200 : Int) ≤ (k : Int)) = false := decide_eq_false (by omega)
        have d2 : decide ((100 : Int) < (key.size : Int)) = false := decide_eq_false (by omega)
        have d3 : decide ((100 : Int) < (value.size : Int)) = false := decide_eq_false (by omega)
        go_wp2_with ((with_reducible refine pick (some 11) ?_); refine wpList_load_mid rfl 35 _ rfl g (o + k * 3) rfl [.int .i64 kind, .string key, .string value] _ HC.out Try.underlying35 rfl info_oq ?_)
        go_roundw
        case rel => exact ⟨k + 1, by omega, by omega, by go_num, Lib.hid (fun p hp => (by
          rw [take_next HX.out] at hp
          rcases List.mem_append.1 hp with h | h
          · exact HK.out p h
          · rw [List.mem_singleton] at h
            subst h
            exact ⟨q1, q2⟩)), HB1.out⟩
        case measure => simp [intOf]; omega
    · obtain rfl : k = n := by omega
      have HBL := Lib.hid hbel
      clear hbel
      go_wp2
      go_ret
      exact ⟨k, rfl, Nat.le_refl _, hk2, HK.out, HBL.out⟩

theorem info_rg2 : (Try.prog.info? 58).map (·.size) = some 2 := by kernel_rfl
/-- Two texts as they may come in. -/
def fitTwo (p : ByteArray × ByteArray) : Prop := p.1.size ≤ maxLen ∧ p.2.size ≤ maxLen
/-- The call answers with a tree and a row that read as the same pairs. -/
def BaseR (w : World) (e : Ending) (w' : World) : Prop := ∃ (t : Value) (h : Nat) (r : Sh) (L : List Pr), e = .returned (.tuple #[t, .slice r.a r.n r.c]) ∧ TRep w' t L h ∧ Ss prE w' r L ∧ L.length ≤ 60 ∧ Below w.heap.size w w'
theorem nil_ss {α : Type} (e : Enc α) (w : World) : Ss e w ⟨none, 0, 0⟩ [] := ⟨Sl.nil_ _ _ _, Nat.le_refl _, Nat.zero_le _, fun _ => rfl, fun b h => by cases h⟩
set_option maxRecDepth 100000 in
set_option maxHeartbeats 4000000 in
theorem base_calls (A : Option Addr) (n c : Nat) (L : List (ByteArray × ByteArray)) (w : World) (hl : Sl rgE w A n L) (hn : n ≤ c) (hc : c ≤ maxLen) (hf : ∀ p ∈ L, fitTwo p) :
    Calls Try.prog 8 #[.slice A n c] w (BaseR w) := by
  unfold maxLen at hc
  have HL := Lib.hid hl
  have HF := Lib.hid hf
  clear hl hf
  go_enter Try.func8, Try.ntmps8
  go_wp2_with (go_at_call 26; refine (new_calls _).mono ?_; rintro e w1 ⟨v0, h0, rfl, hr0, hb1⟩; have HB1 := Lib.hid hb1; have HR0 := Lib.hid hr0; clear hb1 hr0)
  go_loopw [4, 5, 11] (fun t r i wr => ∃ (k : Nat) (K : List Pr) (v : Value) (h : Nat) (rs : Sh), k ≤ n ∧ k ≤ 60 ∧ i = .int .i64 k ∧ v = t ∧ r = .slice rs.a rs.n rs.c ∧ Hid (TRep wr v K h) ∧ Hid (Ss prE wr rs K) ∧ K.length ≤ k ∧ Below w.heap.size w wr) (fun _ _ i _ => n - (intOf i).toNat)
  case atStart => exact ⟨0, [], _, h0, ⟨none, 0, 0⟩, Nat.zero_le _, Nat.zero_le _, rfl, rfl, rfl, HR0, Lib.hid (nil_ss _ _), Nat.le_refl _, HB1.out⟩
  case round =>
    obtain ⟨k, K, v, h, rs, hk, hk2, rfl, rfl, rfl, HT, HS, hkl, hbel⟩ := hrel
    by_cases hlt : k < n
    · obtain ⟨x, g, o, hx, rfl, hg, hcl⟩ := (HL.out.below hbel).get k hlt
      have hc3 : wr.rangeAt g (o + k * 2) [.string x.1, .string x.2] := hcl
      have HC := Lib.hid hc3
      have hbs := hbel.size
      have hfx := HF.out x (List.mem_of_getElem? hx)
      obtain ⟨f1, f2⟩ := hfx
      unfold maxLen at f1 f2
      obtain ⟨key, value⟩ := x
      dsimp only at f1 f2 hc3
      have hba : Below wr.heap.size wr (wr.alloc (.cells #[.string key, .string value] 58)) := (Below.refl _ _).alloc (Nat.le_refl _) _
      have HBA := Lib.hid hba
      have HBX := Lib.hid (keeps hbel hba)
      have HBK := Lib.hid (Blk.new_ wr #[.string key, .string value] 58)
      have HTB := Lib.hid (tbelow HT.out hba)
      have HSB := Lib.hid (HS.out.below hba)
      have HRI := Lib.hid (trise HT.out)
      clear hcl hc3 hx hbel hba
      rcases (show 60 ≤ k ∨ (k < 60 ∧ 100 < key.size) ∨ (k < 60 ∧ key.size ≤ 100 ∧ 100 < value.size) ∨ (k < 60 ∧ key.size ≤ 100 ∧ value.size ≤ 100) by omega) with q | ⟨q, q1⟩ | ⟨q, q1, q2⟩ | ⟨q, q1, q2⟩
      · have d1 : decide ((60 : Int) ≤ (k : Int)) = true := decide_eq_true (by omega)
        go_wp2_with ((with_reducible refine pick (some 15) ?_); refine wpList_load_mid rfl 58 _ rfl g (o + k * 2) rfl [.string key, .string value] _ HC.out Try.underlying58 rfl info_rg2 ?_)
        go_ret2
        exact ⟨_, h, rs, K, rfl, HTB.out, HSB.out, by omega, HBX.out⟩
      · have d1 : decide ((60 : Int) ≤ (k : Int)) = false := decide_eq_false (by omega)
        have d2 : decide ((100 : Int) < (key.size : Int)) = true := decide_eq_true (by omega)
        go_wp2_with ((with_reducible refine pick (some 15) ?_); refine wpList_load_mid rfl 58 _ rfl g (o + k * 2) rfl [.string key, .string value] _ HC.out Try.underlying58 rfl info_rg2 ?_)
        go_ret2
        exact ⟨_, h, rs, K, rfl, HTB.out, HSB.out, by omega, HBX.out⟩
      · have d1 : decide ((60 : Int) ≤ (k : Int)) = false := decide_eq_false (by omega)
        have d2 : decide ((100 : Int) < (key.size : Int)) = false := decide_eq_false (by omega)
        have d3 : decide ((100 : Int) < (value.size : Int)) = true := decide_eq_true (by omega)
        go_wp2_with ((with_reducible refine pick (some 15) ?_); refine wpList_load_mid rfl 58 _ rfl g (o + k * 2) rfl [.string key, .string value] _ HC.out Try.underlying58 rfl info_rg2 ?_)
        go_ret2
        exact ⟨_, h, rs, K, rfl, HTB.out, HSB.out, by omega, HBX.out⟩
      · have d1 : decide ((60 : Int) ≤ (k : Int)) = false := decide_eq_false (by omega)
        have d2 : decide ((100 : Int) < (key.size : Int)) = false := decide_eq_false (by omega)
        have d3 : decide ((100 : Int) < (value.size : Int)) = false := decide_eq_false (by omega)
        have hkl2 : K.length ≤ 50000 := by omega
        have HKL := Lib.hid hkl2
        clear hkl2
        go_wp2_with (first
          | ((with_reducible refine pick (some 15) ?_); refine wpList_load_mid rfl 58 _ rfl g (o + k * 2) rfl [.string key, .string value] _ HC.out Try.underlying58 rfl info_rg2 ?_)
          | (go_at_call 27; refine (tset key value HTB.out HKL.out).mono ?_; rintro e w3 ⟨v', h', rfl, hr3, hb3⟩; have HT3 := Lib.hid hr3; have HS3 := Lib.hid (HSB.out.below hb3); have HB3 := Lib.hid (keeps HBX.out hb3); obtain ⟨c0, c1⟩ : w3.cell? ⟨wr.heap.size, 0, none⟩ = some (.string key) ∧ w3.cell? ⟨wr.heap.size, 1, none⟩ = some (.string value) := ⟨(HBK.out.below hb3).cell 0, (HBK.out.below hb3).cell 1⟩; clear hr3 hb3)
          | (go_at_call 28; refine (set_is key value HS3.out HRI.out (by have := HKL.out; omega)).mono ?_; rintro e w4 ⟨rs', rfl, hs4, hb4⟩; have HS4 := Lib.hid hs4; have HT4 := Lib.hid (tbelow HT3.out hb4); have HB4 := Lib.hid (keeps HB3.out hb4); clear hs4 hb4))
        go_roundw
        case rel => exact ⟨k + 1, putL key value K, _, h', rs', by omega, by omega, by go_num, rfl, rfl, HT4, HS4, Nat.le_trans (put_len _ _ _) (by omega), HB4.out⟩
        case measure => simp [intOf]; omega
    · obtain rfl : k = n := by omega
      have HBL := Lib.hid hbel
      clear hbel
      go_wp2_with fail
      go_ret2
      exact ⟨_, h, rs, K, rfl, HT.out, HS.out, by omega, HBL.out⟩
end Go.Proofs.Ytdnenikplajmaaa.ViewB
