/- What the laws ask of the project's clash, over the landed code. -/
import Derived.Test.YtlblfpacnegmlaaClashKb
import Derived.Test.YtlblfpacnegmlaaClashKd
namespace Go.Proofs.Ytlblfpacnegmlaa.ClashK
set_option linter.unusedVariables false
set_option linter.unusedSimpArgs false
open Go.RowKit
open Go.Proofs.Ytlblfpacnegmlaa.Byte Go.Proofs.Ytlblfpacnegmlaa.KeysM Go.Proofs.Ytlblfpacnegmlaa.TreeM Go.Proofs.Ytlblfpacnegmlaa.ViewM Go.Proofs.Ytlblfpacnegmlaa.ClashM Go.Proofs.Ytlblfpacnegmlaa.ClashKm Go.Proofs.Ytlblfpacnegmlaa.Rw Go.Proofs.Ytlblfpacnegmlaa.Lst Go.Proofs.Ytlblfpacnegmlaa.TreeR Go.Proofs.Ytlblfpacnegmlaa.ViewR Go.Proofs.Ytlblfpacnegmlaa.ClashL Go.Proofs.Ytlblfpacnegmlaa.ClashC Go.Proofs.Ytlblfpacnegmlaa.ClashKb Go.Proofs.Ytlblfpacnegmlaa.ClashKd
open Go.Proofs.Ytlblfpacnegmlaa.Tx (txE)
open Go.Proofs.Ytlblfpacnegmlaa.Own (keeps)
set_option maxRecDepth 100000 in
set_option maxHeartbeats 4000000 in
theorem clash_ok : ClashOk := by
  intro A B C n c m c2 q c3 R G W w hr hg hw hn hm hq hsz
  have HR := Lib.hid hr
  have HG := Lib.hid hg
  have HSZ := Lib.hid hsz
  have HK := Lib.hid (keysof_calls C q c3 W w hw hq)
  have HLN := Lib.hid hw.1
  clear hr hg hw hsz
  go_enter Try.func7, Try.ntmps7
  go_wp2_with fail
  refine HK.out.mono ?_
  rintro e w2 ⟨A2, n2, cc2, K, rfl, hs, hup, hsame, hn2, _, _, _, _, hb2⟩
  have HA := Lib.hid (among_calls A2 n2 cc2 K w2 hs hup)
  have HSM := Lib.hid (swap (R := R) (G := G) hsame)
  have hn3 : n2 ≤ 100000 := by rw [hn2, HLN.out]; exact hq
  have HB2 := Lib.hid hb2
  clear hs hup hsame hn2 hb2
  go_wp2_with fail
  refine HA.out.mono ?_
  rintro e w3 ⟨g, rfl, ham, hb3⟩
  have HB3 := Lib.hid (keeps HB2.out hb3)
  have HT := Lib.hid (touched_calls A B n c m c2 R G 36 #[.pointer (some ⟨g, 0, none⟩)] (amongB K) w3 (HR.out.below HB3.out) (HG.out.below HB3.out) hn hm HSZ.out (amt_tel ham hn3) ent_am)
  clear ham hb3
  go_wp2_with fail
  refine HT.out.mono ?_
  rintro e w4 ⟨rfl, hb4⟩
  have HB4 := Lib.hid (keeps HB3.out hb4)
  clear hb4
  go_wp2_with fail
  go_ret
  exact ⟨ret_bool HSM.out, HB4.out⟩
end Go.Proofs.Ytlblfpacnegmlaa.ClashK
