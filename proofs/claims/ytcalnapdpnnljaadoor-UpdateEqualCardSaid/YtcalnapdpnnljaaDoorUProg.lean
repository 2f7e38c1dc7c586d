/-
  The landed program's eight calls of package update, as the structure that the laws ask for.
-/
import Derived.Test.YtcalnapdpnnljaaDoorUCon
import Derived.Test.YtcalnapdpnnljaaDoorUCmp
import Derived.Test.YtcalnapdpnnljaaDoorUApp
import Derived.Test.YtcalnapdpnnljaaDoorUDec
namespace Go.Proofs.YtcalnapdpnnljaaDoor
open Go.RowKit
open UM (Ef)

theorem RdEf.val {w : World} {v : Value} {es : List Ef} (h : RdEf w v es) : ∃ a l k, v = .slice a l k := by
  obtain ⟨a, k, h, _⟩ := h.shape
  exact ⟨a, _, k, h⟩

theorem uc : UC where
  valE := fun k o f n s w hT h => cValEff k o f n s w h.nm hT
  val := fun c q t v es w hT h hf => cVal c q t v es w hT h (fun e he => (hf e he).nm)
  com := fun c q t v es w h => cCommutes c q t v es w h
  cmp := fun c q t u _ d r y v _ w hu hv => uCompare c q t u d r y v w hu.val hv.val
  bef := fun c q t u _ d r y v _ w hu hv => uBefore c q t u d r y v w hu.val hv.val
  eq := fun c q t u es d r y v fs w hu hv => uEqual c q t u es d r y v fs w hu hv
  app := fun b bs c q t u es w h hu he hf hl => cAppendU b bs c q t u es w h hu he (fun e he => (hf e he).1) hl
  dec := fun b xs w hT h => uDecode b xs w hT h

end Go.Proofs.YtcalnapdpnnljaaDoor
