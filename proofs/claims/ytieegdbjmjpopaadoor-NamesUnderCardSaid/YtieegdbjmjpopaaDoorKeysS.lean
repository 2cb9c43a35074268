/- The contracts of the document's Split and Name of layer 9. -/
import Derived.Test.YtieegdbjmjpopaaDoorKeysR
import Derived.Test.YtieegdbjmjpopaaDoorStill
namespace Go.Proofs.YtieegdbjmjpopaaDoor.KeysS
set_option linter.unusedVariables false
set_option linter.unusedSimpArgs false
open Go.RowKit
open Go.Proofs.YtieegdbjmjpopaaDoor.Byte Go.Proofs.YtieegdbjmjpopaaDoor.PackM Go.Proofs.YtieegdbjmjpopaaDoor.PackV Go.Proofs.YtieegdbjmjpopaaDoor.PackS Go.Proofs.YtieegdbjmjpopaaDoor.PackH Go.Proofs.YtieegdbjmjpopaaDoor.ConvS Go.Proofs.YtieegdbjmjpopaaDoor.KeysM Go.Proofs.YtieegdbjmjpopaaDoor.KeysR Go.Proofs.YtieegdbjmjpopaaDoor.Still

theorem results_tmp4 {fn : Func} {t u v x : Tmp} (h : fn.results = #[.tmp t, .tmp u, .tmp v, .tmp x]) (tmps : Array Value) (P : Program) (w : World) :
    (results fn tmps).run P w = .ok (.tuple #[tmps.getD t undef, tmps.getD u undef, tmps.getD v undef, tmps.getD x undef]) w := by
  simp [results, h, go_sem]
/-- What a key was made of, as answered. -/
def SpE (s : Sp) (w : World) (e : Ending) (w' : World) : Prop := e = .returned (.tuple #[.int .u8 s.letter, .int .u32 s.ino, .string s.name, .int .i64 s.n]) ∧ Below w.heap.size w w'
theorem conv_key (w : World) (key : ByteArray) : ∃ cap w', (convert 9 43 (.string key)).run Tryd.prog w = .ok (.slice (some ⟨w.heap.size, 0, none⟩) key.size cap) w' ∧ Fresh w' w.heap.size w.heap.size key.size cap (txt key) ∧ Below w.heap.size w w' := by
  have := conv_fresh (P := Tryd.prog) w 9 43 5 (txt key) key.size (txt_len key) (txt_bd key) Tryd.underlying9 Tryd.underlying43 Tryd.underlying5
  rw [str_txt] at this
  exact this
theorem key_at (key : ByteArray) (k : Nat) (h : k < key.size) : (txt key).getD k 0 = (((key[k]'h).toNat : Nat) : Int) := by
  have h' : k < key.data.size := h
  unfold txt
  rw [List.getD_eq_getElem?_getD, List.getElem?_map, List.getElem?_eq_getElem (by simpa using h')]
  simp
  rfl
theorem gx_key {key : ByteArray} (h : 5 ≤ key.size) : gx (txt key) 1 4 % 4294967296 = getn (txt key) 1 4 := by
  have hl := txt_len key
  have hg := g_ok (txt key) 1 4 (by omega) (by rw [show width 4 = 4 from rfl]; omega)
  rw [hg.1]
  have hb := getn_bd key
  show getn (txt key) 1 4 % 4294967296 = _
  exact Int.emod_eq_of_lt hb.1 (by omega)
section
variable {key : ByteArray} (h5 : 5 ≤ key.size)
theorem way_1 (a : (((key[0]'(Nat.lt_of_lt_of_le (by decide) h5)).toNat : Int) == 73) = true) (b : (((key.size - 5 : Nat) : Int) == 0) = true) : sp key = ⟨73, gx (txt key) 1 4 % 4294967296, E0, 0⟩ := by
  rw [beq_iff_eq] at a b
  rw [gx_key h5, sp_73 (by rw [key_at key 0 (by omega)]; exact a) (by omega)]
theorem way_2 (a : (((key[0]'(Nat.lt_of_lt_of_le (by decide) h5)).toNat : Int) == 73) = true) (b : (((key.size - 5 : Nat) : Int) == 0) = false) : sp key = ⟨0, 0, E0, 0⟩ := by
  rw [beq_iff_eq] at a
  rw [beq_eq_false_iff_ne] at b
  have ha := (key_at key 0 (by omega)).trans a
  exact sp_none (by omega) (by omega) (by omega)
theorem way_3 (a : (((key[0]'(Nat.lt_of_lt_of_le (by decide) h5)).toNat : Int) == 69) = true) (b : 0 < key.size - 5) (c : key.size - 5 ≤ 32) : sp key = ⟨69, gx (txt key) 1 4 % 4294967296, key.extract 5 key.size, 0⟩ := by
  rw [beq_iff_eq] at a
  rw [gx_key h5, sp_69 (by rw [key_at key 0 (by omega)]; exact a) (by omega) (by omega)]
theorem way_4 (a : (((key[0]'(Nat.lt_of_lt_of_le (by decide) h5)).toNat : Int) == 69) = true) (c : ¬ (0 < key.size - 5 ∧ key.size - 5 ≤ 32)) : sp key = ⟨0, 0, E0, 0⟩ := by
  rw [beq_iff_eq] at a
  have ha := (key_at key 0 (by omega)).trans a
  exact sp_none (by omega) (by omega) (by omega)
theorem way_5 (a : (((key[0]'(Nat.lt_of_lt_of_le (by decide) h5)).toNat : Int) == 68) = true) (b : (((key.size - 5 : Nat) : Int) == 2) = true) : sp key = ⟨68, gx (txt key) 1 4 % 4294967296, E0, 256 * (txt key).getD 5 0 + (txt key).getD 6 0⟩ := by
  rw [beq_iff_eq] at a b
  rw [gx_key h5, sp_68 (by rw [key_at key 0 (by omega)]; exact a) (by omega)]
theorem way_5x (a : (((key[0]'(Nat.lt_of_lt_of_le (by decide) h5)).toNat : Int) == 68) = true) (b : (((key.size - 5 : Nat) : Int) == 2) = true) {p q : Int} (hp : (txt key).getD 5 0 = p) (hq : (txt key).getD 6 0 = q) : sp key = ⟨68, gx (txt key) 1 4 % 4294967296, E0, 256 * p + q⟩ := by
  subst hp
  subst hq
  exact way_5 h5 a b
theorem way_6 (a : (((key[0]'(Nat.lt_of_lt_of_le (by decide) h5)).toNat : Int) == 68) = true) (b : (((key.size - 5 : Nat) : Int) == 2) = false) : sp key = ⟨0, 0, E0, 0⟩ := by
  rw [beq_iff_eq] at a
  rw [beq_eq_false_iff_ne] at b
  have ha := (key_at key 0 (by omega)).trans a
  exact sp_none (by omega) (by omega) (by omega)
theorem way_7 (a : (((key[0]'(Nat.lt_of_lt_of_le (by decide) h5)).toNat : Int) == 73) = false) (b : (((key[0]'(Nat.lt_of_lt_of_le (by decide) h5)).toNat : Int) == 69) = false) (c : (((key[0]'(Nat.lt_of_lt_of_le (by decide) h5)).toNat : Int) == 68) = false) : sp key = ⟨0, 0, E0, 0⟩ := by
  rw [beq_eq_false_iff_ne] at a b c
  have ha := key_at key 0 (by omega)
  exact sp_none (by omega) (by omega) (by omega)
end
theorem SpE.of {s t : Sp} {w w' : World} {e : Ending} (h : s = t) (he : SpE t w e w') : SpE s w e w' := by
  subst h
  exact he
end Go.Proofs.YtieegdbjmjpopaaDoor.KeysS
