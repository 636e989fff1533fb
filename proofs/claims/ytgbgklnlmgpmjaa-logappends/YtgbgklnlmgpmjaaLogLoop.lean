/- The outer loop's body of LogAppends, out of the program. -/
import Derived.Test.YtgbgklnlmgpmjaaLogApp
namespace Go.Proofs.Ytgbgklnlmgpmjaa
open Go.RowKit Lo Hdp Chk Rec

def loopsIn : Code → List Code
  | .loop c => [c]
  | .seq a b => loopsIn a ++ loopsIn b
  | .block _ c => loopsIn c
  | .scope c => loopsIn c
  | .cond _ a b => loopsIn a ++ loopsIn b
  | _ => []

noncomputable def lawBody : Code := ((Try.f3.body.map loopsIn).getD [])[1]?.getD .skip
end Go.Proofs.Ytgbgklnlmgpmjaa
