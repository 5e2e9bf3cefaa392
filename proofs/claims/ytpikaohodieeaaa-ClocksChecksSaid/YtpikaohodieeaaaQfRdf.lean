/- The specification's differences: passed, At, between, Between, lowest, Drift. -/
import Derived.Test.YtpikaohodieeaaaQfRwi
namespace Go.Proofs.Ytpikaohodieeaaa
open Go.RowKit
set_option linter.unusedSimpArgs false
set_option linter.unusedVariables false
end Go.Proofs.Ytpikaohodieeaaa
