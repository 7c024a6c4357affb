/- The infos of bytes. -/
import Derived.Test.YtajgmadohhagkaaDoorMsk
namespace Go.Proofs.YtajgmadohhagkaaDoor
theorem Tryd.info5 : (Tryd.prog.info? 5).map (fun i => (i.zero, i.size, i.bytes)) = some (some (.int .u8 0), 1, 1) := by kernel_rfl
end Go.Proofs.YtajgmadohhagkaaDoor
