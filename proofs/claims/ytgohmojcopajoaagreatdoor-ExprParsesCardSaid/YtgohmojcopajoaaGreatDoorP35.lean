/- Texts of one seat, put together: LexAny. -/
import Derived.Test.YtgohmojcopajoaaGreatDoorP34
set_option linter.unusedVariables false
set_option linter.unusedSimpArgs false
set_option maxRecDepth 100000
set_option maxHeartbeats 16000000
namespace Go.Proofs.YtgohmojcopajoaaGreatDoor
section
open Go.RowKit
open Lx
theorem LH (s:ByteArray) (w:World) (hs:s.size<=9223372036854775807):Calls Tryz.prog 50 #[.string s] w (EG s w):=by
 by_cases h:s.size<=16384
 · exact Q9 s w h
 · exact QY s w hs (by omega)
theorem SB (s:ByteArray) (w:World) (hs:s.size<=9223372036854775807):Calls Tryz.prog 30 #[.string s] w (Cb s w):=by
 by_cases h:s.size<=16384
 · exact OG s w h
 · exact QB s w hs (by omega)
end
end Go.Proofs.YtgohmojcopajoaaGreatDoor
