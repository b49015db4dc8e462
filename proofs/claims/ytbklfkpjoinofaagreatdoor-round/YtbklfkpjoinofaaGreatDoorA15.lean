import Derived.Test.YtbklfkpjoinofaaGreatDoorA06
set_option linter.all false
set_option maxRecDepth 100000
set_option maxHeartbeats 8000000
namespace Go.Proofs.YtbklfkpjoinofaaGreatDoor
open Go.RowKit Go.Proofs.Tryz
theorem Tryz.infoMk:(Tryz.prog.info? 98).map (fun i=>(i.zero,i.size,i.bytes))=some (some (.agg #[.string ⟨#[]⟩,oz]),2,24):=by kernel_rfl
theorem Tryz.infoPg2:(Tryz.prog.info? 100).map (fun i=>(i.zero,i.size,i.bytes))=some (some (.agg #[oz,oz,.slice none 0 0]),3,40):=by kernel_rfl
theorem Tryz.infoOp2:(Tryz.prog.info? 31).map (fun i=>(i.zero,i.size,i.bytes))=some (some (.agg #[oz,oz,oz,oz,oz,oz,oz,oz,.string ⟨#[]⟩]),9,80):=by kernel_rfl
end Go.Proofs.YtbklfkpjoinofaaGreatDoor
