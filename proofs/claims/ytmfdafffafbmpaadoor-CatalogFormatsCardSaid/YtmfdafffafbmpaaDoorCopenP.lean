/- For the statements that call Parse: opening the arguments, and the seven variables. -/
import Derived.Test.YtmfdafffafbmpaaDoorCopen
import Derived.Test.YtmfdafffafbmpaaDoorClaidP
namespace Go.Proofs.YtmfdafffafbmpaaDoor
end Go.Proofs.YtmfdafffafbmpaaDoor
