/- A row that grows, and another one of another type. -/
import Derived.Test.YtdfhhbncmdpoeaaGreatHTab
namespace Go.Proofs.YtdfhhbncmdpoeaaGreat
open Go.RowKit
theorem own_apart' {w:World} {b b' n n' sz sz':Nat} {e e':TypeId} {v v':Value} {xs xs':List Value} (h:w.ownsRow b e sz v n xs) (h':w.ownsRow b' e' sz' v' n' xs') (hne:e≠e'):∀ k,v.ownBlock=some k→v'.ownBlock≠some k:=by
 intro k hk
 rcases h.2 with ⟨rfl,_⟩ | ⟨g,cap,cur,rfl,_,hg,_⟩
 ·cases hk
 ·have e1:g=k:=by simpa [Value.ownBlock] using hk
  subst e1
  exact Bk.row (g:=g) (cs:=cur) hg h' (fun e=>hne e.symm)
end Go.Proofs.YtdfhhbncmdpoeaaGreat
