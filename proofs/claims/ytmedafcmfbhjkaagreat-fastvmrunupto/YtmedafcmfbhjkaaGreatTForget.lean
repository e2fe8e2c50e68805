import Derived.Test.YtmedafcmfbhjkaaGreatP03
namespace Go.Proofs.YtmedafcmfbhjkaaGreat
namespace T
open Go.RowKit

end T
end Go.Proofs.YtmedafcmfbhjkaaGreat
