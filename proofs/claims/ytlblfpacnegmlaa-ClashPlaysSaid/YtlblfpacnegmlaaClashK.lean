import Derived.Test.YtlblfpacnegmlaaSq
import Derived.Test.YtlblfpacnegmlaaClashKb
import Derived.Test.YtlblfpacnegmlaaClashKd
set_option maxHeartbeats 16000000
set_option linter.unusedVariables false
set_option linter.unusedSimpArgs false
set_option maxRecDepth 100000
namespace Go.Proofs.Ytlblfpacnegmlaa.ClashK
open Go.RowKit
open Byte KeysM TreeM ViewM ClashM ClashKm Lst TreeR ViewR ClashL ClashC ClashKb ClashKd
open Tx (txE)
open Own (keeps)
theorem clash_ok : ClashOk := by
 intro A B C n c m c2 q c3 R G W w hr hg hw hn hm hq hsz
 have HR := hQ_ hr
 have HG := hQ_ hg
 have HSZ := hQ_ hsz
 have HK := hQ_ (keysof_calls C q c3 W w hw hq)
 have HLN := hQ_ hw.1
 clear hr hg hw hsz
 go_enter Try.func7,Try.ntmps7
 go_wp2_with fail
 refine HK.out.mono ?_
 rintro e w2 ⟨A2,n2,cc2,K,rfl,hs,hup,hsame,hn2,_,_,_,_,hb2⟩
 have HA := hQ_ (among_calls A2 n2 cc2 K w2 hs hup)
 have HSM := hQ_ (swap (R := R) (G := G) hsame)
 have hn3 : n2 ≤ 100000 := by rw [hn2,HLN.out]; exact hq
 have HB2 := hQ_ hb2
 clear hs hup hsame hn2 hb2
 go_wp2_with fail
 refine HA.out.mono ?_
 rintro e w3 ⟨g,rfl,ham,hb3⟩
 have HB3 := hQ_ (keeps HB2.out hb3)
 have HT := hQ_ (touched_calls A B n c m c2 R G 36 #[.pointer (some ⟨g,0,none⟩)] (amongB K) w3 (HR.out.below HB3.out) (HG.out.below HB3.out) hn hm HSZ.out (amt_tel ham hn3) ent_am)
 clear ham hb3
 go_wp2_with fail
 refine HT.out.mono ?_
 rintro e w4 ⟨rfl,hb4⟩
 have HB4 := hQ_ (keeps HB3.out hb4)
 clear hb4
 go_wp2_with fail
 go_ret
 exact ⟨ret_bool HSM.out,HB4.out⟩
end Go.Proofs.Ytlblfpacnegmlaa.ClashK