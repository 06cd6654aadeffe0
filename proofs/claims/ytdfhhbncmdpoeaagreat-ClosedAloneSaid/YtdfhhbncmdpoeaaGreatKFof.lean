/- The facts that a grammar has. -/
import Derived.Test.YtdfhhbncmdpoeaaGreatFactS
namespace Go.Proofs.YtdfhhbncmdpoeaaGreat
open Go.RowKit
def factsOf (terms:Bool) (g:Gr.Gm):List Fc:=if okB g then fz (Rk.ranks terms g.prods g.nons.toNat) else []
theorem factsOf_no {terms:Bool} {g:Gr.Gm} (h:okB g=false):factsOf terms g=[]:=by unfold factsOf;rw [if_neg (by rw [h];decide)]
theorem factsOf_ok {terms:Bool} {g:Gr.Gm} (h:okB g=true):factsOf terms g=fz (Rk.ranks terms g.prods g.nons.toNat):=by unfold factsOf;rw [if_pos h]
theorem factsOf_len {terms:Bool} {g:Gr.Gm} (h:okB g=true):(factsOf terms g).length=g.nons.toNat:=by rw [factsOf_ok h,fz_len,Rk.ranks_length]
end Go.Proofs.YtdfhhbncmdpoeaaGreat
