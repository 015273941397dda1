/- Layer 14: the program's functions do what they are asked to do. Conditions: none. -/
import Derived.Test.YtmdhollegemlhaaDropW14
import Derived.Test.YtmdhollegemlhaaNxtW14
import Derived.Test.YtmdhollegemlhaaEvnW14
import Derived.Test.YtmdhollegemlhaaTrmW14
namespace Go.Proofs.Ytmdhollegemlhaa
open Go.RowKit

theorem spk14 : SpK Sk where
  lt := fun h => h.lt
  keep := fun h hk => h.keep hk
  new := new14_any
  put := fun k r h hf hL hk _ => put14_any k r h hf hL hk
  drop := fun k r h hf hL hk _ => drop14_any k r h hf hL hk
  trim := fun r h _ hL => trim14_any r h hL
  has := fun k r h _ hL hk => has14_any k r h hL hk
  next := fun r lo hi h _ hL => next14_any r lo hi h hL
  count := fun r h _ hL => count14_any r h hL
  events := fun a b h hf hL => events14_any a b h hf hL
end Go.Proofs.Ytmdhollegemlhaa
