/- The example of the document holds: Nums of two numbers; and PackNames' walk. No condition. -/
import Derived.Test.YtdmganpblkepfaaPackJoin
import Derived.Test.YtdmganpblkepfaaPackNumsFn
namespace Go.Proofs.Ytdmganpblkepfaa
open Go.RowKit

end Go.Proofs.Ytdmganpblkepfaa
