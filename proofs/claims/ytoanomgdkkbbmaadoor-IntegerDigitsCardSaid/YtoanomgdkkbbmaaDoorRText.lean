/- The reference's Text. -/
import Derived.Test.YtoanomgdkkbbmaaDoorRTexts0
namespace Go.Proofs.YtoanomgdkkbbmaaDoor
open Go.RowKit LM

end Go.Proofs.YtoanomgdkkbbmaaDoor
