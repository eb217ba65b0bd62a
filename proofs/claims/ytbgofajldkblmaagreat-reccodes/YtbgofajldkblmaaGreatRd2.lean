/- What is read as a page was laid as one: plain lemmas. Own lemmas, no statement. -/
import Derived.Test.YtbgofajldkblmaaGreatRd1
namespace Go.Proofs.YtbgofajldkblmaaGreat

end Go.Proofs.YtbgofajldkblmaaGreat
