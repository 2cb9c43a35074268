import Derived.Test.YtfalhnomhidkcaaGreatDoorSq
import Derived.Test.YtfalhnomhidkcaaGreatDoorKeysR
import Derived.Test.YtfalhnomhidkcaaGreatDoorStill
set_option maxHeartbeats 16000000
set_option linter.unusedVariables false
set_option linter.unusedSimpArgs false
set_option maxRecDepth 100000
namespace Go.Proofs.YtfalhnomhidkcaaGreatDoor.KeysS
open Go.RowKit
open Byte PackM PackV PackS PackH ConvS KeysM KeysR Still
theorem results_tmp4 {fn : Func} {t u v x : Tmp} (h : fn.results = #[.tmp t,.tmp u,.tmp v,.tmp x]) (tmps : Array Value) (P : Program) (w : World) :
 (results fn tmps).run P w = .ok (.tuple #[tmps.getD t undef,tmps.getD u undef,tmps.getD v undef,tmps.getD x undef]) w := by
 simp [results,h,go_sem]
def SpE (s : Sp) (w : World) (e : Ending) (w' : World) : Prop := e = .returned (.tuple #[.int .u8 s.letter,.int .u32 s.ino,.string s.name,.int .i64 s.n]) ∧ Below w.heap.size w w'
theorem conv_key (w : World) (key : ByteArray) : ∃ cap w',(convert 9 77 (.string key)).run Tryz.prog w = .ok (.slice (some ⟨w.heap.size,0,none⟩) key.size cap) w' ∧ Fresh w' w.heap.size w.heap.size key.size cap (txt key) ∧ Below w.heap.size w w' := by
 have := conv_fresh (P := Tryz.prog) w 9 77 5 (txt key) key.size (txt_len key) (txt_bd key) Tryz.underlying9 Tryz.underlying77 Tryz.underlying5
 rw [str_txt] at this
 exact this
theorem refsplit_short (key : ByteArray) (w : World) (h : key.size < 5) : Calls Tryz.prog 24 #[.string key] w (SpE (sp key) w) := by
 rw [sp_short h]
 have d : decide ((key.size : Int) < 5) = true := by simp; omega
 have hs : (key.size : Int) ≤ 9223372036854775807 := by omega
 clear h
 go_enter Tryz.func24,Tryz.ntmps24
 go_wp2_with fail
 refine bodyPost_ret (results_tmp4 rfl _ _ _) rfl ?_
 exact ⟨rfl,Below.refl _ _⟩
theorem key_at (key : ByteArray) (k : Nat) (h : k < key.size) : (txt key).getD k 0 = (((key[k]'h).toNat : Nat) : Int) := by
 have h' : k < key.data.size := h
 unfold txt
 rw [List.getD_eq_getElem?_getD,List.getElem?_map,List.getElem?_eq_getElem (by simpa using h')]
 simp
 rfl
theorem gx_key {key : ByteArray} (h : 5 ≤ key.size) : gx (txt key) 1 4 % 4294967296 = getn (txt key) 1 4 := by
 have hl := txt_len key
 have hg := g_ok (txt key) 1 4 (by omega) (by rw [show width 4 = 4 from rfl]; omega)
 rw [hg.1]
 have hb := getn_bd key
 show getn (txt key) 1 4 % 4294967296 = _
 exact Int.emod_eq_of_lt hb.1 (by omega)
section
variable {key : ByteArray} (h5 : 5 ≤ key.size)
theorem way_1 (a : (((key[0]'(Nat.lt_of_lt_of_le (by decide) h5)).toNat : Int) == 73) = true) (b : (((key.size - 5 : Nat) : Int) == 0) = true) : sp key = ⟨73,gx (txt key) 1 4 % 4294967296,E0,0⟩ := by
 rw [beq_iff_eq] at a b
 rw [gx_key h5,sp_73 (by rw [key_at key 0 (by omega)]; exact a) (by omega)]
theorem way_2 (a : (((key[0]'(Nat.lt_of_lt_of_le (by decide) h5)).toNat : Int) == 73) = true) (b : (((key.size - 5 : Nat) : Int) == 0) = false) : sp key = ⟨0,0,E0,0⟩ := by
 rw [beq_iff_eq] at a
 rw [beq_eq_false_iff_ne] at b
 have ha := (key_at key 0 (by omega)).trans a
 exact sp_none (by omega) (by omega) (by omega)
theorem way_3 (a : (((key[0]'(Nat.lt_of_lt_of_le (by decide) h5)).toNat : Int) == 69) = true) (b : 0 < key.size - 5) (c : key.size - 5 ≤ 32) : sp key = ⟨69,gx (txt key) 1 4 % 4294967296,key.extract 5 key.size,0⟩ := by
 rw [beq_iff_eq] at a
 rw [gx_key h5,sp_69 (by rw [key_at key 0 (by omega)]; exact a) (by omega) (by omega)]
theorem way_4 (a : (((key[0]'(Nat.lt_of_lt_of_le (by decide) h5)).toNat : Int) == 69) = true) (c : ¬ (0 < key.size - 5 ∧ key.size - 5 ≤ 32)) : sp key = ⟨0,0,E0,0⟩ := by
 rw [beq_iff_eq] at a
 have ha := (key_at key 0 (by omega)).trans a
 exact sp_none (by omega) (by omega) (by omega)
theorem way_5 (a : (((key[0]'(Nat.lt_of_lt_of_le (by decide) h5)).toNat : Int) == 68) = true) (b : (((key.size - 5 : Nat) : Int) == 2) = true) : sp key = ⟨68,gx (txt key) 1 4 % 4294967296,E0,256 * (txt key).getD 5 0 + (txt key).getD 6 0⟩ := by
 rw [beq_iff_eq] at a b
 rw [gx_key h5,sp_68 (by rw [key_at key 0 (by omega)]; exact a) (by omega)]
theorem way_5x (a : (((key[0]'(Nat.lt_of_lt_of_le (by decide) h5)).toNat : Int) == 68) = true) (b : (((key.size - 5 : Nat) : Int) == 2) = true) {p q : Int} (hp : (txt key).getD 5 0 = p) (hq : (txt key).getD 6 0 = q) : sp key = ⟨68,gx (txt key) 1 4 % 4294967296,E0,256 * p + q⟩ := by
 subst hp
 subst hq
 exact way_5 h5 a b
theorem way_6 (a : (((key[0]'(Nat.lt_of_lt_of_le (by decide) h5)).toNat : Int) == 68) = true) (b : (((key.size - 5 : Nat) : Int) == 2) = false) : sp key = ⟨0,0,E0,0⟩ := by
 rw [beq_iff_eq] at a
 rw [beq_eq_false_iff_ne] at b
 have ha := (key_at key 0 (by omega)).trans a
 exact sp_none (by omega) (by omega) (by omega)
theorem way_7 (a : (((key[0]'(Nat.lt_of_lt_of_le (by decide) h5)).toNat : Int) == 73) = false) (b : (((key[0]'(Nat.lt_of_lt_of_le (by decide) h5)).toNat : Int) == 69) = false) (c : (((key[0]'(Nat.lt_of_lt_of_le (by decide) h5)).toNat : Int) == 68) = false) : sp key = ⟨0,0,E0,0⟩ := by
 rw [beq_eq_false_iff_ne] at a b c
 have ha := key_at key 0 (by omega)
 exact sp_none (by omega) (by omega) (by omega)
end
theorem SpE.of {s t : Sp} {w w' : World} {e : Ending} (h : s = t) (he : SpE t w e w') : SpE s w e w' := by
 subst h
 exact he
theorem refsplit_long (key : ByteArray) (w : World) (h : 5 ≤ key.size) (hn : key.size ≤ 140737488355328) : Calls Tryz.prog 24 #[.string key] w (SpE (sp key) w) := by
 have d : decide ((key.size : Int) < 5) = false := by simp; omega
 obtain ⟨cap,w1,hrun,hf,hb1⟩ := conv_key w key
 have HG := hQ_ (refget_calls (some ⟨w.heap.size,0,none⟩) key.size cap (txt key) 1 4 w1 hf.bs (by omega) (by omega) (by omega) (by omega) (by omega))
 have HB := hQ_ hb1
 clear hf hb1
 have hlt : 0 < key.size := by omega
 have hs : (key.size : Int) ≤ 9223372036854775807 := by omega
 obtain ⟨S,hS⟩ : ∃ S,sp key = S := ⟨_,rfl⟩
 have HS := hQ_ hS
 rw [hS]
 clear hS
 obtain ⟨G,hG⟩ : ∃ G,gx (txt key) 1 4 = G := ⟨_,rfl⟩
 have HGX := hQ_ hG
 rw [hG] at HG
 clear hG
 go_enter Tryz.func24,Tryz.ntmps24
 go_wp2_with (first
  | ((with_reducible refine pick (some 15) ?_); refine wpList_conv rfl 9 77 _ rfl (.string key) (.slice (some ⟨w.heap.size,0,none⟩) key.size cap) rfl hrun ?_)
  | (go_at_call 61; refine HG.out.mono ?_; rintro e w2 ⟨rfl,rfl⟩))
 all_goals rw [← HS.out]
 all_goals rw [← HGX.out]
 all_goals first
  | (refine bodyPost_ret (results_tmp4 rfl _ _ _) rfl ?_; first | exact SpE.of (way_1 h (by assumption) (by assumption)) ⟨rfl,HB.out⟩ | exact SpE.of (way_2 h (by assumption) (by assumption)) ⟨rfl,HB.out⟩ | exact SpE.of (way_3 h (by assumption) (by assumption) (by omega)) ⟨rfl,HB.out⟩ | exact SpE.of (way_4 h (by assumption) (by omega)) ⟨rfl,HB.out⟩ | exact SpE.of (way_6 h (by assumption) (by assumption)) ⟨rfl,HB.out⟩ | exact SpE.of (way_7 h (by assumption) (by assumption) (by assumption)) ⟨rfl,HB.out⟩)
  | skip
 have hw4 : (((key[0]'hlt).toNat : Int) == 68) = true := by assumption
 have hw5 : (((key.size - 5 : Nat) : Int) == 2) = true := by assumption
 have hz : (key.extract 5 key.size).size = key.size - 5 := by simp
 have hq : key.size - 5 = 2 := by rw [beq_iff_eq] at hw5; omega
 have hz2 : (key.extract 5 key.size).size = 2 := by omega
 obtain ⟨rest,hrest⟩ : ∃ r,key.extract 5 key.size = r := ⟨_,rfl⟩
 have hd := txt_drop key 5
 rw [hrest] at hz2 hd
 have k0 := key_at rest 0 (by omega)
 have k1 := key_at rest 1 (by omega)
 have b0 := (rest[0]'(by omega)).toNat_lt
 have b1 := (rest[1]'(by omega)).toNat_lt
 have x0 : ∀ w,(Instr.index 9 (.string rest) (.int .i64 0)).run Tryz.prog w = .ok (.int .u8 ((rest[0]'(by omega)).toNat : Nat)) w := fun w => by
  have h2 : 0 < rest.size := by omega
  have h3 : (0 : Int) < (rest.size : Int) := by omega
  go_simp
 have x1 : ∀ w,(Instr.index 9 (.string rest) (.int .i64 1)).run Tryz.prog w = .ok (.int .u8 ((rest[1]'(by omega)).toNat : Nat)) w := fun w => by
  have h2 : 1 < rest.size := by omega
  have h3 : (1 : Int) < (rest.size : Int) := by omega
  go_simp
 generalize (rest[0]'(by omega)).toNat = p at k0 b0 x0
 generalize (rest[1]'(by omega)).toNat = q at k1 b1 x1
 have g5 : (txt key).getD 5 0 = (p : Int) := by
  rw [← k0,hd]
  simp [List.getD_eq_getElem?_getD]
 have g6 : (txt key).getD 6 0 = (q : Int) := by
  rw [← k1,hd]
  simp [List.getD_eq_getElem?_getD]
 have G5 := hQ_ g5
 have G6 := hQ_ g6
 have HW := hQ_ hw5
 have H4 := hQ_ hw4
 have v0 : IntKind.i64.wrap (p : Int) = p := by rw [IntKind.wrap_i64]; omega
 have v00 : IntKind.i64.wrap (q : Int) = q := by rw [IntKind.wrap_i64]; omega
 have v1 : IntKind.i64.wrap (256 * (p : Int)) = 256 * p := by rw [IntKind.wrap_i64]; omega
 have v2 : IntKind.i64.wrap (256 * (p : Int) + q) = 256 * p + q := by rw [IntKind.wrap_i64]; omega
 have v3 : IntKind.u32.wrap (gx (txt key) 1 4) = gx (txt key) 1 4 % 4294967296 := by rw [IntKind.wrap_u32]
 rw [hrest]
 clear hz hz2 hq hd k0 k1 b0 b1 g5 g6 hw4 hw5 d HG hrun
 refine lit_drew (by kernel_rfl) (by kernel_rfl) ?_
 have HBD := hQ_ HB.out.drew
 generalize w1.drew = W5 at HBD ⊢
 refine still_val (.int .u64 (gx (txt key) 1 4)) (by kernel_rfl) (by kernel_rfl) ?_
 refine still_val (.int .u32 (gx (txt key) 1 4 % 4294967296)) (by kernel_rfl) (still_conv (u := .int .u64 (gx (txt key) 1 4)) rfl (by kernel_rfl) (by go_simp)) ?_
 refine still_val (.string rest) (by kernel_rfl) (by kernel_rfl) ?_
 refine still_val (.int .u8 (p : Int)) (by kernel_rfl) (still_at (.string rest) (.int .i64 0) rfl (by kernel_rfl) (by kernel_rfl) (x0 _)) ?_
 refine still_val (.int .i64 (p : Int)) (by kernel_rfl) (still_conv (u := .int .u8 (p : Int)) rfl (by kernel_rfl) (by go_simp)) ?_
 refine still_val (.int .i64 (256 * (p : Int))) (by kernel_rfl) (still_bin (.int .i64 256) (.int .i64 (p : Int)) rfl (by kernel_rfl) (by kernel_rfl) (by go_simp) (by go_simp)) ?_
 refine still_val (.string rest) (by kernel_rfl) (by kernel_rfl) ?_
 refine still_val (.int .u8 (q : Int)) (by kernel_rfl) (still_at (.string rest) (.int .i64 1) rfl (by kernel_rfl) (by kernel_rfl) (x1 _)) ?_
 refine still_val (.int .i64 (q : Int)) (by kernel_rfl) (still_conv (u := .int .u8 (q : Int)) rfl (by kernel_rfl) (by go_simp)) ?_
 refine still_val (.int .i64 (256 * (p : Int) + q)) (by kernel_rfl) (still_bin (.int .i64 (256 * (p : Int))) (.int .i64 (q : Int)) rfl (by kernel_rfl) (by kernel_rfl) (by go_simp) (by go_simp)) ?_
 refine still_val (.int .u8 68) (by kernel_rfl) (by kernel_rfl) ?_
 refine still_val (.int .u32 (gx (txt key) 1 4 % 4294967296)) (by kernel_rfl) (by kernel_rfl) ?_
 refine still_val (.string E0) (by kernel_rfl) (by kernel_rfl) ?_
 refine still_val (.int .i64 (256 * (p : Int) + q)) (by kernel_rfl) (by kernel_rfl) ?_
 refine still_end ?_
 simp only [pZ_]
 go_wp2_with fail
 refine bodyPost_ret (results_tmp4 rfl _ _ _) rfl ?_
 rw [← HS.out]
 exact SpE.of (way_5x h H4.out HW.out G5.out G6.out) ⟨rfl,HBD.out⟩
theorem refsplit_calls (key : ByteArray) (w : World) (hn : key.size ≤ 140737488355328) : Calls Tryz.prog 24 #[.string key] w (SpE (sp key) w) := by
 rcases Nat.lt_or_ge key.size 5 with h | h
 ·exact refsplit_short key w h
 ·exact refsplit_long key w h hn
end Go.Proofs.YtfalhnomhidkcaaGreatDoor.KeysS