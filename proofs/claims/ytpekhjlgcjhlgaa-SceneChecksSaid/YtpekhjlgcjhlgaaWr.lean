/- Nothing of its own: what it imports. -/
import Derived.Shelf.Strconv.Itoa0
import Derived.Test.YtpekhjlgcjhlgaaWb
namespace Go.Proofs.Ytpekhjlgcjhlgaa
end Go.Proofs.Ytpekhjlgcjhlgaa
