/- Texts of one seat, put together: LexAny. -/
import Derived.Test.YtgohmojcopajoaaGreatDoorP34
set_option linter.unusedVariables false
set_option linter.unusedSimpArgs false
set_option maxRecDepth 100000
set_option maxHeartbeats 16000000
namespace Go.Proofs.YtgohmojcopajoaaGreatDoor
section
open Go.RowKit
open Lx
theorem Lz (s:ByteArray) (w:World) (hs:s.size<=9223372036854775807):Calls Tryz.prog 50 #[.string s] w (EC s w):=by
 by_cases h:s.size<=16384
 · exact Qe s w h
 · exact QC s w hs (by omega)
theorem RX (s:ByteArray) (w:World) (hs:s.size<=9223372036854775807):Calls Tryz.prog 30 #[.string s] w (BZ s w):=by
 by_cases h:s.size<=16384
 · exact Oy s w h
 · exact Qg s w hs (by omega)
end
end Go.Proofs.YtgohmojcopajoaaGreatDoor
