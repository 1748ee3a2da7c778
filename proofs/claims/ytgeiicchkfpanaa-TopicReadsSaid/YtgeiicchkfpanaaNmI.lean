/- Layer 2: the contract of Meets. -/
import Derived.Test.YtgeiicchkfpanaaNmH
import Derived.Laws.Cover3
namespace Go.Proofs.Ytgeiicchkfpanaa
open Go.RowKit Go.Shelf
/-- Does a glob meet a name? -/
def meetsB (g t : ByteArray) : Bool := topicL t.data.toList && (globL g.data.toList && meetsL (cutL g.data.toList) (cutL t.data.toList))
end Go.Proofs.Ytgeiicchkfpanaa
